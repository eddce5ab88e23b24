"""Lines: what they are, and whether they are right by a recipe (points 35 and 36)."""

from redo.replays import replay
from redo.stamps import stamp_of, value_by
from redo.values import is_name

MOST_READS = 12


def is_line(thing):
    if not isinstance(thing, tuple) or len(thing) != 3 or not is_name(thing[0]):
        return False
    return are_reads(thing[1]) and is_end(thing[2])


def are_reads(thing):
    if not isinstance(thing, tuple) or len(thing) > MOST_READS:
        return False
    return all([is_read(part) for part in thing])


def is_read(thing):
    return isinstance(thing, tuple) and len(thing) == 2 and is_name(thing[0]) and is_stamp(thing[1])


def is_stamp(thing):
    return isinstance(thing, str) and value_by(thing) is not None


def is_end(thing):
    if not isinstance(thing, tuple) or len(thing) != 2 or not isinstance(thing[0], str):
        return False
    if thing[0] == "made":
        return is_stamp(thing[1])
    return thing[0] in ("fails", "wants") and is_name(thing[1])


def is_right(recipe, line):
    return comes_to(recipe, line[1], line[2])


# Whether the replay of a recipe on just these reads, and no peeks, comes to just this end.

def comes_to(recipe, reads, end):
    came = replay(recipe, [(read[0], value_by(read[1])) for read in reads], [])
    if came[0] == "made":
        return end == ("made", stamp_of(came[1]))
    # What else a replay comes to, strays and peeks, is no line's end.
    return end == came


def lines_by_names(lines):
    found = {}
    for line in lines:
        found[line[0]] = line
    return found
