"""What is settled of a book's things: the ground of bringing, weaving and fetching (points 55, 73 and 78)."""

from redo.held import own_line
from redo.shelf import put_done
from redo.stamps import value_by
from redo.tasks import Task


class Settling:
    # The shelf is None where none is asked and nothing is put.
    def __init__(self, book, held, shelf):
        self.recipes = dict(book[1])
        # The values of what is made by now: of told things, and of settled ones whose line ends so.
        self.good = dict(book[0])
        self.kept = dict(held)
        self.store = shelf
        self.over = {}
        self.rows = []

    # Whether a name is that of a made thing that is not settled yet.
    def is_open(self, name):
        return name in self.recipes and name not in self.over

    def task_of(self, name):
        return Task(name, self.recipes[name], own_line(self.recipes, self.kept, name), self.store)

    def settle(self, task):
        outcome = task.outcome()
        line = outcome[1]
        self.kept[task.name] = (task.text, line)
        if line[2][0] == "made":
            self.good[task.name] = value_by(line[2][1])
        if outcome[0] == "done" and self.store is not None:
            put_done(self.store, task.text, line)
        self.over[task.name] = True
        self.rows.append((outcome[0], task.name))

    def told(self):
        return (dict(self.kept), list(self.rows))
