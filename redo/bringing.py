"""Bringing: names are brought one behind the other; and what that would do (points 54 to 56 and 62)."""

from redo.held import ends_now
from redo.making import lines_of
from redo.reasons import reason_by
from redo.recipetexts import show_recipe
from redo.settling import Settling


def bring(book, held, names):
    return bring_all(Settling(book, held, None), names)


def bring_all(settling, names):
    for name in names:
        bring_one(settling, name)
    return settling.told()


def bring_one(settling, name):
    # The tasks under way, each one begun for the one ahead of it, which waits for its thing.
    way = [settling.task_of(name)] if settling.is_open(name) else []
    while len(way) > 0:
        task = way[-1]
        if task.ended:
            settling.settle(way.pop())
        elif settling.is_open(task.awaited) and task.awaited not in [other.name for other in way]:
            way.append(settling.task_of(task.awaited))
        else:
            # What is under way is not among the good: it is taken as not made.
            task.go_on(settling.good)


def would_do(book, held, names):
    # By lines by good values all is kept, in the order in which it would be settled.
    log = bring(book, held_now(book), names)[1]
    ends = ends_now(book)
    return [row[1] for row in log if reason_by(ends, book[1], held, row[1]) is not None]


def held_now(book):
    found = {}
    for name, line in lines_of(book).items():
        found[name] = (show_recipe(book[1][name]), line)
    return found
