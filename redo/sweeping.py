"""Sweeping: what is reached from roots by what is held, and held of that alone (point 61)."""

from redo.held import held_lines
from redo.papers import names_reached


def reached(held, roots):
    return names_reached(held_lines(held), roots)


def swept(held, roots):
    found = {}
    for name in reached(held, roots):
        if name in held:
            found[name] = held[name]
    return found
