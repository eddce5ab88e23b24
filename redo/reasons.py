"""Reasons: why a held line doesn't stand, and the row of causes behind that (points 57 and 58)."""

from redo.books import sort_at
from redo.errors import NoThing
from redo.held import ends_now, otherwise_now, own_line


def reason_for(book, held, name):
    if sort_at(book, name) != "made":
        raise NoThing("the book makes no such thing")
    return reason_by(ends_now(book), book[1], held, name)


def reason_by(ends, recipes, held, name):
    if name not in held:
        return ("none",)
    line = own_line(recipes, held, name)
    return ("recipe",) if line is None else otherwise_now(ends, line)


def causes(book, held, name):
    reason = reason_for(book, held, name)
    ends = ends_now(book)
    row = []
    while reason is not None:
        row.append((name, reason))
        name = named_by(reason)
        if name not in book[1] or name in [cause[0] for cause in row]:
            return row
        reason = reason_by(ends, book[1], held, name)
    return row


# The thing that a reason names, None where it names none.

def named_by(reason):
    if reason[0] == "read":
        return reason[2]
    return reason[1] if reason[0] == "wanted" else None
