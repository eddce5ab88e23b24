"""A second, plain reading of the house (95 to 99), by the plain readings of what it does; and drawn deeds."""

import itertools

import plain
import things
from redo.recipetexts import show_recipe
from redo.stamps import stamp_of, value_by


class House:
    """Its book, held, entries, log and what its watch was shown are plain values of it."""

    def __init__(self):
        self.book, self.held, self.entries, self.log, self.shown = ({}, {}), {}, [], [], []

    def tell(self, name, value):
        self.strike(name)
        self.book[0][name] = value

    def make(self, name, recipe):
        self.strike(name)
        self.book[1][name] = recipe

    def strike(self, name):
        self.book = tuple({other: thing for other, thing in part.items() if other != name} for part in self.book)

    def ask(self, names):
        self.held, log = plain.brought(self.book, self.held, names, self.entries)
        return self.behind(log, names)

    def weave(self, names, turns):
        weave = plain.Weaving(self.book, self.held, names)
        for turn in itertools.chain(turns, itertools.repeat(0)):
            ready = weave.ready()
            if not ready:
                break
            weave.move(ready[turn % len(ready)])
        self.held = weave.held
        for word, name in weave.log:
            text, (_, reads, end) = self.held[name]
            if word == "done" and plain.is_entry(text, reads, end) and (text, reads, end) not in self.entries:
                self.entries.append((text, reads, end))
        return self.behind(weave.log, names)

    def behind(self, log, names):
        for word, name in log:
            self.log.append((word, name))
            if word == "done":
                text, line = self.held[name]
                if any(text == other and plain.at_odds(elder, line) for other, elder in self.shown):
                    self.log.append(("untold", name))
                self.shown.append((text, line))
        return [self.result(name) for name in names]

    def result(self, name, row=()):
        """None where any result may be told: where a row of wants comes to a thing that is made."""
        if name in self.book[0]:
            return None if row else ("made", self.book[0][name])
        if name in row:
            return ("ring", row + (name,))
        row += (name,)
        if name not in self.book[1]:
            return ("lacks", row)
        word, thing = self.held[name][1][2]
        if word == "made":
            return ("made", value_by(thing)) if row == (name,) else None
        return ("fails", row, thing) if word == "fails" else self.result(thing, row)

    def audit(self):
        names = plain.stale(self.book, self.held)
        for name in names:
            self.held = {other: kept for other, kept in self.held.items() if other != name}
            self.log.append(("stale", name))
        return names

    def paper(self, names):
        """The lines of a paper, sorted; or the name with which it is refused."""
        held = {name: kept for name, kept in self.held.items() if name in self.book[1]}
        reached = [name for name in plain.reached(held, names) if name in self.book[1]]
        for name in reached:
            if held.get(name) != (show_recipe(self.book[1][name]), plain.line(self.book, name)):
                return name
        return sorted(held[name][1] for name in reached)

    def take(self, paper):
        """Whether it was taken."""
        if not plain.let_by(self.book, paper):
            return False
        for line in paper:
            self.held = dict(self.held, **{line[0]: (show_recipe(self.book[1][line[0]]), line)})
        return True

    def sweep(self, roots):
        self.held = {name: self.held[name] for name in plain.reached(self.held, roots) if name in self.held}


VALUES = (0, 1, 1, 2, "", "a", "c", (), (1,))


def drawn_deed(source, book, words):
    """A deed of 95: ("tell", name, value), ("make", name, recipe) or ("strike", name) of a name of the book."""
    way = source.random()
    names = sorted([*book[0], *book[1]])
    if way < 0.15 and names:
        return ("strike", source.choice(names))
    if way < 0.6:
        return ("tell", source.choice(names[-3:] + ["i", "j", source.choice(things.NAMES)]), source.choice(VALUES))
    return ("make", source.choice(things.NAMES), source.choice([steady, lively, lively, one_of])(source, book, words))


def steady(source, book, words):
    return things.steady(source, words, ["i", "j"] + list(things.NAMES))


def lively(source, book, words):
    return things.right_lively(source, source.randint(0, 4), words, ["i", "j"] * 3 + list(things.NAMES) + ["zz"])


def one_of(source, book, words):
    """The recipe of another name, if there is one: so two names have one text."""
    return source.choice([recipe for _, recipe in sorted(book[1].items())] or [lively(source, book, words)])


def drawn_turns(source):
    return [source.randrange(40) for _ in range(source.choice([0, 3, 20, 200]))]


def opened(source, words):
    """Deeds that tell and make a book."""
    book = source.choice([things.book, things.busy, things.busy])(source, words)
    return ([("tell", name, value) for name, value in book[0].items()]
            + [("make", name, recipe) for name, recipe in book[1].items()])


def drawn_row(source, book, words):
    """Anything that may be done to a house of this book: a tuple of its method's name and the arguments."""
    way = source.random()
    if way < 0.3:
        return drawn_deed(source, book, words)
    if way < 0.55:
        return ("ask", things.asked_names(source, book))
    if way < 0.75:
        return ("weave", things.asked_names(source, book), drawn_turns(source))
    if way < 0.83:
        return ("audit",)
    if way < 0.9:
        return ("paper", things.asked_names(source, book))
    if way < 0.96:
        return ("take", drawn_paper(source, book))
    return ("sweep", source.sample(things.NAMES, source.choice([0, 1, 2, 4])))


def drawn_paper(source, book):
    """Lines by good values of some made things, mostly in such an order that they are let by where they can be; at
    times one of them bent."""
    names = [name for name in sorted(book[1]) if source.random() < 0.8]
    left, paper = {name: plain.line(book, name) for name in names}, []
    while left:
        free = [name for name in sorted(left) if not any(read in left for read, _ in left[name][1])]
        paper.append(left.pop(source.choice(free)))
    if paper and source.random() < 0.3:
        place = source.randrange(len(paper))
        name, reads, end = paper[place]
        paper[place] = (name, reads[:-1], end) if reads else (name, reads, ("made", stamp_of(7)))
    return paper
