"""What an expr tells for the values got (point 13)."""

from redo.exprs import exprs_within
from redo.values import is_value, is_whole


def told_by(expr, got):
    if expr[0] == "put":
        return ("value", expr[1])
    if expr[0] == "got":
        return ("value", got[expr[1]])
    parts = []
    for inner in exprs_within(expr):
        told = told_by(inner, got)
        if told[0] == "fails":
            return told
        parts.append(told[1])
    return told_of(expr[0], parts)


def told_of(word, parts):
    if word == "row":
        return bounded(tuple(parts))
    if word == "many":
        return told_many(parts[0])
    if word == "part":
        return told_part(parts[0], parts[1])
    if word == "sum":
        return told_sum(parts[0], parts[1])
    if word == "join":
        return told_join(parts[0], parts[1])
    if word == "same":
        return ("value", 1 if parts[0] == parts[1] else 0)
    return told_less(parts[0], parts[1])


def bounded(thing):
    return ("value", thing) if is_value(thing) else ("fails", "great")


def told_many(value):
    if is_whole(value):
        return ("fails", "kind")
    return ("value", len(value))


def told_part(row, number):
    if not isinstance(row, tuple) or not is_whole(number):
        return ("fails", "kind")
    # Python would count a number below 0 from the row's end.
    if not 0 <= number < len(row):
        return ("fails", "part")
    return ("value", row[number])


def told_sum(one, other):
    if not is_whole(one) or not is_whole(other):
        return ("fails", "kind")
    return bounded(one + other)


def told_join(one, other):
    if isinstance(one, str) and isinstance(other, str):
        return bounded(one + other)
    if isinstance(one, tuple) and isinstance(other, tuple):
        return bounded(one + other)
    return ("fails", "kind")


def told_less(one, other):
    if not is_whole(one) or not is_whole(other):
        return ("fails", "kind")
    return ("value", 1 if one < other else 0)
