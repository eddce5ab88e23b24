"""Making everything afresh: good things, lines by good values, what a making gives (points 32 to 34)."""

from redo.errors import NotMade
from redo.recipes import GETTING
from redo.replays import step_of
from redo.stamps import stamp_of, value_by


def good_values(book):
    return made_afresh(book)[0]


def line_of(book, name):
    come = made_afresh(book)[1]
    if name not in come:
        raise NotMade(name)
    return line_from(name, come[name])


def fresh(book, name):
    made = made_afresh(book)
    if name in made[0]:
        return ("made", made[0][name])
    return result_along(lines_from(made[1]), name)


def lines_of(book):
    return lines_from(made_afresh(book)[1])


# How far a recipe has come is a tuple: the values got, the reads (name, value) of its wants,
# and what it does next (step_of). Told are the good values, and how far each made thing comes by them.

def made_afresh(book):
    good = dict(book[0])
    come = {}
    for name, recipe in book[1].items():
        come[name] = start_of(recipe)
    grown = True
    while grown:
        many = len(good)
        for name in book[1]:
            # What was got of good things stays as it is, so each recipe goes on from where it was.
            come[name] = gone_on(come[name], good)
            if come[name][2][0] == "made":
                good[name] = come[name][2][1]
        grown = len(good) > many
    return (good, come)


def start_of(recipe):
    return ((), (), step_of(recipe, ()))


def gone_on(come, good):
    while awaited_at(come) in good:
        come = given(come, good[awaited_at(come)])
    return come


# The name of the thing that is wanted or peeked next, None where the recipe is at its end.

def awaited_at(come):
    return come[2][1] if come[2][0] in GETTING else None


def given(come, value):
    step = come[2]
    got = come[0] + (value,)
    reads = come[1] + ((step[1], value),) if step[0] == "want" else come[1]
    return (got, reads, step_of(step[2], got))


def lines_from(come):
    lines = {}
    for name in come:
        lines[name] = line_from(name, come[name])
    return lines


def line_from(name, come):
    reads = tuple([(read[0], stamp_of(read[1])) for read in come[1]])
    return (name, reads, end_by(come[2]))


def end_by(step):
    if step[0] == "made":
        return ("made", stamp_of(step[1]))
    if step[0] == "fails":
        return step
    return ("wants", step[1])


# The result of a name by lines, a dict of them by their names; a name that has none lacks.

def result_along(lines, name):
    row = [name]
    while row[-1] in lines and row[-1] not in row[:-1]:
        end = lines[row[-1]][2]
        if end[0] == "made":
            return ("made", value_by(end[1]))
        if end[0] == "fails":
            return ("fails", tuple(row), end[1])
        row.append(end[1])
    return ("ring" if row[-1] in lines else "lacks", tuple(row))
