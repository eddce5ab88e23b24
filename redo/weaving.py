"""Weaving: made things brought by small moves of tasks, in whatever order (points 70 to 73)."""

from redo.errors import NotReady
from redo.settling import Settling


class Weave:
    def __init__(self, book, held, names):
        self.settling = Settling(book, held, None)
        # The tasks that are not settled yet, by their names.
        self.tasks = {}
        for name in names:
            self.call_for(name)

    def call_for(self, name):
        if self.settling.is_open(name) and name not in self.tasks:
            self.tasks[name] = self.settling.task_of(name)

    def ready(self):
        return sorted([name for name in self.tasks if not self.settling.is_open(self.tasks[name].awaited)])

    def move(self, name):
        if not isinstance(name, str) or name not in self.ready():
            raise NotReady("no ready task is called so")
        task = self.tasks[name]
        task.go_on(self.settling.good)
        if task.ended:
            self.settle([name])
        else:
            self.call_for(task.awaited)
        # Where no task can move, all that are left wait for one another.
        if len(self.ready()) == 0:
            self.settle(sorted(self.tasks))

    def settle(self, names):
        for name in names:
            self.settling.settle(self.tasks.pop(name))

    def settled(self):
        return len(self.tasks) == 0

    def told(self):
        return self.settling.told()


def woven(book, held, names, turns):
    weave = Weave(book, held, names)
    moves = 0
    while not weave.settled():
        ready = weave.ready()
        turn = turns[moves] if moves < len(turns) else 0
        weave.move(ready[turn % len(ready)])
        moves = moves + 1
    return weave.told()
