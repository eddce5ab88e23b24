"""Things of many kinds for the tests; values, exprs, recipes and books by a fixed row of numbers."""

import random
import string

# A value of just forty.
FORTY = ((0,) * 8, (0,) * 8, (0,) * 8, (0,) * 7, 0, 0, 0, 0)


class Touchy:
    """A thing that can't be compared, counted, walked, or shown."""

    __hash__ = None

    def refuse(self, *args):
        raise RuntimeError("touched")

    __eq__ = __ne__ = __lt__ = __le__ = __gt__ = __ge__ = refuse
    __len__ = __iter__ = __getitem__ = __bool__ = __repr__ = __str__ = __int__ = __index__ = refuse


def ringed_list():
    ring = []
    ring.append(ring)
    return ring


def ringed_tuple():
    inner = []
    ring = (inner,)
    inner.append(ring)
    return ring


def nested(part, depth):
    for _ in range(depth):
        part = (part,)
    return part


def shared(part, depth, breadth=8):
    """A row that shares its parts: great beyond counting, for a few tuples."""
    for _ in range(depth):
        part = (part,) * breadth
    return part


def odd_things():
    """Things that are no names, no values and no exprs."""
    return [
        None, True, False, 0.0, 1.0, float("nan"), float("inf"), 1j, b"", b"a", bytearray(b"a"),
        [], ["a"], [1, 2], {}, {"a": 1}, set(), {1}, frozenset(), frozenset(["a"]), range(3), object(),
        object, len, str, int, iter([1]), (x for x in (1,)), lambda: 1, Touchy(), ringed_list(), ringed_tuple(),
        Ellipsis, NotImplemented, Exception("a"), memoryview(b"a"),
    ]


def single(source):
    if source.random() < 0.5:
        return source.choice([0, 1, -1, 7, -10, 10 ** 18, -10 ** 18, source.randint(-10 ** 18, 10 ** 18)])
    many = source.choice([0, 1, 2, 5, 19, 20])
    return "".join([source.choice("abcxyz0189-") for _ in range(many)])


def value(source, rows_left=4):
    """Any value, but that it may be of more than forty."""
    if rows_left == 0 or source.random() < 0.4:
        return single(source)
    return tuple([value(source, rows_left - 1) for _ in range(source.randint(0, 4))])


def source(seed):
    return random.Random(seed)


def expr(source, depth, got):
    """Any expr for so many values got, at most so deep."""
    if depth <= 1 or source.random() < 0.4:
        if got > 0 and source.random() < 0.5:
            return ("got", source.randrange(got))
        return ("put", source.choice([0, 1, -3, "", "a", "bread", "c-4", (), (1, "b"), single(source)]))
    word = source.choice(["row", "many", "part", "sum", "join", "same", "less"])
    if word == "row":
        return ("row", tuple([expr(source, depth - 1, got) for _ in range(source.randint(0, 3))]))
    return (word,) + tuple([expr(source, depth - 1, got) for _ in range(1 if word == "many" else 2)])


def asked(source, got):
    """An expr that often tells a name."""
    return ("put", source.choice(["a", "b", "c"])) if source.random() < 0.7 else expr(source, 2, got)


def recipe(source, depth, got=0, words=("say", "fail", "want", "peek", "when")):
    """Any recipe, but that it may be too great, too deep, or of too many wants."""
    word = source.choice([word for word in words if depth > 2 or word in ("say", "fail")])
    if word == "fail":
        return ("fail", source.choice(["a", "sour", "zzzzzzzz"]))
    if word == "say":
        return ("say", expr(source, min(depth - 1, 4), got))
    if word == "when":
        return ("when", expr(source, 3, got)) + tuple([recipe(source, depth - 1, got, words) for _ in range(2)])
    return (word, asked(source, got), recipe(source, depth - 1, got + 1, words))


def right_recipe(source, depth, words=("say", "fail", "want", "peek", "when")):
    """Any recipe of point 14."""
    while True:
        found = recipe(source, depth, 0, words)
        size = measured(found)
        if size[0] <= 60 and size[1] <= 20 and size[2] <= 12:
            return found


def measured(recipe):
    """How many, how deep, and the most wants and peeks on a way, of a recipe or an expr."""
    if recipe[0] in ("put", "got", "fail"):
        return (1, 1, 0)
    sizes = [measured(part) for part in (recipe[1] if recipe[0] == "row" else recipe[1:])]
    many = 1 + sum([size[0] for size in sizes])
    deep = 1 + max([size[1] for size in sizes], default=0)
    wants = max([size[2] for size in sizes], default=0)
    return (many, deep, wants + (1 if recipe[0] in ("want", "peek") else 0))


def expr_of(many):
    """An expr of so many in all, at most five deep where they are at most sixty."""
    if many == 1:
        return ("put", 1)
    left = many - 1
    parts = []
    while left > 0:
        places = 8 - len(parts)
        take = max(1, (left + places - 1) // places)
        parts.append(expr_of(take))
        left -= take
    return ("row", tuple(parts))


def chain(depth, leaf=("put", 1)):
    """An expr so deep, where the leaf is one deep."""
    found = leaf
    for _ in range(depth - 1):
        found = ("many", found)
    return found


def asking(words, last, name="a"):
    """A recipe that asks by these words, want or peek, one behind the other, and then does the last one."""
    found = last
    for word in reversed(words):
        found = (word, ("put", name), found)
    return found


def names(many):
    """So many names, rising."""
    return [one + other for one in "ab" for other in string.ascii_lowercase][:many]


def book_of(told, made):
    """A book of so many told and so many made things."""
    found = names(told + made)
    return (dict.fromkeys(found[:told], 7), dict.fromkeys(found[told:], ("say", ("put", 1))))
