"""Honest recipes by lines: one that comes to all of them, or two to which none comes (point 93)."""

from redo.stamps import value_by
from redo.untold import at_odds, next_at

# What stands where no line goes: any recipe would do.
ANY = ("fail", "any")


def honest_by(lines):
    odds = first_odds(lines)
    if odds is not None:
        return ("odds", odds[0], odds[1])
    return ("recipe", recipe_along(lines, 0))


def first_odds(lines):
    for j in range(len(lines)):
        for i in range(j):
            if at_odds(lines[i], lines[j]):
                return (i, j)
    return None


# What comes to these lines from where so many values are got. They read the same up to there, and no two are at
# odds: so what one does next, all do.

def recipe_along(lines, got):
    if len(lines) == 0:
        return ANY
    step = next_at(lines[0], got)
    if step[0] == "made":
        return ("say", ("put", value_by(step[1])))
    if step[0] == "fails":
        return ("fail", step[1])
    return ("want", ("put", step[1]), parted_along([line for line in lines if len(line[1]) > got], got))


# The lines are parted by the stamps of their read of this number.

def parted_along(lines, number):
    if len(lines) == 0:
        return ANY
    stamp = lines[0][1][number][1]
    others = [line for line in lines if line[1][number][1] != stamp]
    alike = recipe_along([line for line in lines if line[1][number][1] == stamp], number + 1)
    if len(others) == 0:
        return alike
    return ("when", ("same", ("got", number), ("put", value_by(stamp))), alike, parted_along(others, number))
