"""The house: a book, what is held of it, a shelf, a watch and a log (points 95 to 99)."""

from redo.audits import let_go, stale
from redo.checker import lets_by
from redo.deeds import made_with, told_with, without
from redo.errors import BadPaper, NoPaper
from redo.fetching import bring_by
from redo.held import held_lines, own_line, paper_in
from redo.making import lines_of, result_along
from redo.recipetexts import show_recipe
from redo.shelf import Shelf, put_done
from redo.sweeping import reached, swept
from redo.untold import Watch
from redo.weaving import woven


class House:
    def __init__(self):
        self.now = ({}, {})
        self.kept = {}
        self.store = Shelf()
        self.watch = Watch()
        self.rows = []

    def tell(self, name, value):
        self.now = told_with(self.now, name, value)

    def make(self, name, recipe):
        self.now = made_with(self.now, name, recipe)

    def strike(self, name):
        self.now = without(self.now, name)

    def ask(self, names):
        told = bring_by(self.now, self.kept, self.store, names)
        self.settle(told[0], told[1])
        return self.results(names)

    def weave(self, names, turns):
        told = woven(self.now, self.kept, names, turns)
        for row in told[1]:
            if row[0] == "done":
                put_done(self.store, told[0][row[1]][0], told[0][row[1]][1])
        self.settle(told[0], told[1])
        return self.results(names)

    # What was brought or woven is held from now on, and what was done for that is shown to the watch.
    def settle(self, held, log):
        self.kept = held
        for row in log:
            self.rows.append(row)
            if row[0] == "done" and self.watch.saw(held[row[1]][0], held[row[1]][1]) is not None:
                self.rows.append(("untold", row[1]))

    def results(self, names):
        lines = held_lines(held_of_made(self.now, self.kept))
        return [result_in(self.now, lines, name) for name in names]

    def audit(self):
        names = stale(self.now, self.kept)
        self.kept = let_go(self.kept, names)
        self.rows.extend([("stale", name) for name in names])
        return names

    def paper(self, names):
        held = held_of_made(self.now, self.kept)
        lines = lines_of(self.now)
        # What is reached rises, so the first one is the least.
        for name in reached(held, names):
            if name in lines and own_line(self.now[1], held, name) != lines[name]:
                raise NoPaper(name)
        return paper_in(held, names)

    def check(self, thing):
        return lets_by(self.now, thing)

    def take(self, paper):
        if not lets_by(self.now, paper):
            raise BadPaper("the book doesn't let this paper by")
        held = dict(self.kept)
        for line in paper:
            held[line[0]] = (show_recipe(self.now[1][line[0]]), line)
        self.kept = held

    def sweep(self, roots):
        self.kept = swept(self.kept, roots)

    def book(self):
        return (dict(self.now[0]), dict(self.now[1]))

    def held(self):
        return dict(self.kept)

    def log(self):
        return list(self.rows)

    def faults(self):
        return self.watch.faults()

    def shelf(self):
        return self.store.entries()


# What is held of the names that the book makes: lines of others may have stayed from elder books.

def held_of_made(book, held):
    return let_go(held, [name for name in held if name not in book[1]])


def result_in(book, lines, name):
    if name in book[0]:
        return ("made", book[0][name])
    return result_along(lines, name)
