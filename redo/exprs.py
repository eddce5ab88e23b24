"""Exprs: what they are (point 12)."""

from redo.values import is_value, is_whole

MOST_EXPRS = 60
MOST_DEEP = 20
MOST_IN_ROW = 8
# How many exprs stand straight in one that begins with this word.
WITHIN = {"many": 1, "part": 2, "sum": 2, "join": 2, "same": 2, "less": 2}


def is_expr(thing, many):
    # Layer by layer, and never more than may be: a thing that shares its parts can be
    # too deep to follow and too great to count.
    layer = [thing]
    counted = 0
    for above in range(MOST_DEEP):
        counted = counted + len(layer)
        if counted > MOST_EXPRS or not all([is_shaped(part, many) for part in layer]):
            return False
        layer = layer_within(layer)
    return len(layer) == 0


def is_shaped(thing, many):
    if not isinstance(thing, tuple) or len(thing) < 2 or not isinstance(thing[0], str):
        return False
    if thing[0] in WITHIN:
        return len(thing) == 1 + WITHIN[thing[0]]
    return len(thing) == 2 and is_filled(thing[0], thing[1], many)


def is_filled(word, thing, many):
    if word == "put":
        return is_value(thing)
    if word == "got":
        return is_whole(thing) and 0 <= thing < many
    return word == "row" and isinstance(thing, tuple) and len(thing) <= MOST_IN_ROW


def layer_within(layer):
    inner = []
    for expr in layer:
        inner.extend(exprs_within(expr))
    return inner


def exprs_within(expr):
    if expr[0] == "put" or expr[0] == "got":
        return []
    if expr[0] == "row":
        return list(expr[1])
    return list(expr[1:])
