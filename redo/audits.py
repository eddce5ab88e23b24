"""Audits: which held lines of recipes that peek are not as made afresh, and held without such (points 90 and 91)."""

from redo.held import own_line
from redo.making import lines_of
from redo.recipes import is_honest


def stale(book, held):
    lines = lines_of(book)
    return [name for name in sorted(lines) if is_stale(book[1], held, lines[name])]


# The line is that by good values.

def is_stale(recipes, held, line):
    kept = own_line(recipes, held, line[0])
    return kept is not None and kept != line and not is_honest(recipes[line[0]])


def let_go(held, names):
    found = dict(held)
    for name in names:
        found.pop(name, None)
    return found
