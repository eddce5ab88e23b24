"""Books written as lists of texts, and read from such lists (point 31)."""

from redo.books import MOST_NAMES, names_of, sort_at
from redo.errors import BadLine, BadWord
from redo.recipetexts import read_recipe, show_recipe
from redo.stamps import stamp_of, value_by
from redo.values import is_name


def shown_book(book):
    return [shown_thing(book, name) for name in names_of(book)]


def shown_thing(book, name):
    if sort_at(book, name) == "told":
        return f"told {name} " + stamp_of(book[0][name])
    return f"made {name} " + show_recipe(book[1][name])


def read_book(lines):
    told = {}
    recipes = {}
    for at, line in enumerate(lines):
        found = thing_by(line)
        if found is None or at >= MOST_NAMES or found[1] in told or found[1] in recipes:
            raise BadLine(at)
        if found[0] == "told":
            told[found[1]] = found[2]
        else:
            recipes[found[1]] = found[2]
    return (told, recipes)


# A tuple ("told" or "made", name, value or recipe), None where the line tells no thing.

def thing_by(line):
    words = line.split(" ", 2)
    if len(words) < 3 or not is_name(words[1]):
        return None
    content = content_by(words[0], words[2])
    return None if content is None else (words[0], words[1], content)


def content_by(word, text):
    if word == "told":
        return value_by(text)
    if word == "made":
        return recipe_or_none(text)
    return None


def recipe_or_none(text):
    try:
        return read_recipe(text)
    except BadWord:
        return None
