"""The refusals: one base, and each refusal straight under it."""


class RedoError(ValueError):
    pass


class BadWord(RedoError):
    def __init__(self, at):
        RedoError.__init__(self, f"word {at} is not as told")
        self.at = at


class BadLine(RedoError):
    def __init__(self, at):
        RedoError.__init__(self, f"line {at} can not stand where it does")
        self.at = at


class NotMade(RedoError):
    def __init__(self, name):
        RedoError.__init__(self, f"{name!r} is not made")
        self.name = name


class NoLine(RedoError):
    def __init__(self, name):
        RedoError.__init__(self, f"{name!r} has no line")
        self.name = name


class NoPaper(RedoError):
    def __init__(self, name):
        RedoError.__init__(self, f"{name!r} is not held as it would be made")
        self.name = name


class NoName(RedoError):
    pass


class NoValue(RedoError):
    pass


class NoRecipe(RedoError):
    pass


class NoThing(RedoError):
    pass


class TooMany(RedoError):
    pass


class NotReady(RedoError):
    pass


class Dishonest(RedoError):
    pass


class BadPaper(RedoError):
    pass


class NoRow(RedoError):
    pass
