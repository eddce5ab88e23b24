"""What is held: whether it is such, what stands of it, and papers in it (points 50 to 53)."""

from redo.booktexts import recipe_or_none
from redo.lines import is_line, is_right
from redo.making import lines_of
from redo.papers import in_order, lines_reached
from redo.recipes import is_honest
from redo.recipetexts import show_recipe
from redo.stamps import stamp_of
from redo.values import is_name

LACKS = ("lacks",)


def is_held(thing):
    if not isinstance(thing, dict):
        return False
    return all([is_held_at(pair[0], pair[1]) for pair in thing.items()])


def is_held_at(name, thing):
    if not isinstance(thing, tuple) or len(thing) != 2 or not isinstance(thing[0], str):
        return False
    if not is_name(name) or not is_line(thing[1]) or thing[1][0] != name:
        return False
    recipe = recipe_or_none(thing[0])
    if recipe is None:
        return False
    # A recipe that peeks can have come to any line: what it peeked at stands in none.
    return not is_honest(recipe) or is_right(recipe, thing[1])


def end_now(book, name):
    return ends_now(book).get(name, LACKS)


# The ends now of all names of the book.

def ends_now(book):
    ends = {}
    for name, value in book[0].items():
        ends[name] = ("made", stamp_of(value))
    for name, line in lines_of(book).items():
        ends[name] = line[2]
    return ends


def stands(book, held, name):
    line = own_line(book[1], held, name)
    return line is not None and otherwise_now(ends_now(book), line) is None


# The line that is held of a name with the text of the recipe by which it is made; None where there is no such.

def own_line(recipes, held, name):
    if name not in held or name not in recipes or held[name][0] != show_recipe(recipes[name]):
        return None
    return held[name][1]


# The first thing of a line that is otherwise by ends now, as point 57 tells it; None where there is none.

def otherwise_now(ends, line):
    for k, read in enumerate(line[1]):
        end = ends.get(read[0], LACKS)
        if end != ("made", read[1]):
            return ("read", k, read[0], read[1], end)
    if line[2][0] == "wants" and ends.get(line[2][1], LACKS)[0] == "made":
        return ("wanted", line[2][1], ends[line[2][1]][1])
    return None


def paper_in(held, names):
    return in_order(lines_reached(held_lines(held), names))


def held_lines(held):
    lines = {}
    for name, kept in held.items():
        lines[name] = kept[1]
    return lines
