"""Replays: what a recipe comes to by what is read and peeked (points 17 and 18)."""

from redo.telling import told_by
from redo.values import is_name

# What a replay comes to where a want or a peek is not given its thing.
NOT_GIVEN = {"want": "wants", "peek": "peeks"}


def replay(recipe, reads, peeks):
    came = followed(recipe, reads, peeks)
    # A want that meets a read of another name leaves that one unused: it strays by this, too.
    if came[1] < len(reads):
        return ("strays", came[1])
    return came[0]


# What the recipe comes to, and how many reads it used for that.

def followed(recipe, reads, peeks):
    given = {"want": reads, "peek": peeks}
    used = {"want": 0, "peek": 0}
    got = []
    step = step_of(recipe, got)
    while step[0] in given:
        pairs = given[step[0]]
        k = used[step[0]]
        if k >= len(pairs) or pairs[k][0] != step[1]:
            return ((NOT_GIVEN[step[0]], step[1]), used["want"])
        got.append(pairs[k][1])
        used[step[0]] = k + 1
        step = step_of(step[2], got)
    return (step, used["want"])


# What a recipe does next: ("made", value), ("fails", word), or ("want" or "peek", name, recipe within).

def step_of(recipe, got):
    if recipe[0] == "fail":
        return ("fails", recipe[1])
    told = told_by(recipe[1], got)
    if told[0] == "fails":
        return told
    if recipe[0] == "when":
        return step_of(recipe[3] if told[1] in (0, "", ()) else recipe[2], got)
    if recipe[0] == "say":
        return ("made", told[1])
    if not is_name(told[1]):
        return ("fails", "name")
    return (recipe[0], told[1], recipe[2])
