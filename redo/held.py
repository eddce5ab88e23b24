"""What is held: whether it is such, what stands of it, and papers in it (points 50 to 53)."""

from redo.books import sort_at
from redo.booktexts import recipe_or_none
from redo.lines import is_line, is_right
from redo.making import lines_of
from redo.papers import in_order, lines_reached
from redo.recipes import is_honest
from redo.recipetexts import show_recipe
from redo.stamps import stamp_of
from redo.values import is_name

LACKS = ("lacks",)


def is_held(thing):
    if not isinstance(thing, dict):
        return False
    return all([is_held_at(pair[0], pair[1]) for pair in thing.items()])


def is_held_at(name, thing):
    if not isinstance(thing, tuple) or len(thing) != 2 or not isinstance(thing[0], str):
        return False
    if not is_name(name) or not is_line(thing[1]) or thing[1][0] != name:
        return False
    recipe = recipe_or_none(thing[0])
    if recipe is None:
        return False
    # A recipe that peeks can have come to any line: what it peeked at stands in none.
    return not is_honest(recipe) or is_right(recipe, thing[1])


def end_now(book, name):
    return ends_now(book).get(name, LACKS)


# The ends now of all names of the book.

def ends_now(book):
    ends = {}
    for name, value in book[0].items():
        ends[name] = ("made", stamp_of(value))
    for name, line in lines_of(book).items():
        ends[name] = line[2]
    return ends


def stands(book, held, name):
    if name not in held or sort_at(book, name) != "made":
        return False
    if held[name][0] != show_recipe(book[1][name]):
        return False
    return is_as_now(ends_now(book), held[name][1])


def is_as_now(ends, line):
    if not all([ends.get(read[0]) == ("made", read[1]) for read in line[1]]):
        return False
    return line[2][0] != "wants" or ends.get(line[2][1], LACKS)[0] != "made"


def paper_in(held, names):
    return in_order(lines_reached(held_lines(held), names))


def held_lines(held):
    lines = {}
    for name, kept in held.items():
        lines[name] = kept[1]
    return lines
