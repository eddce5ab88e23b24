"""Books: the things that are told, and the recipes of those that are made (points 3 and 30)."""

from redo.recipes import is_honest, is_recipe
from redo.values import is_name, is_value

MOST_NAMES = 40


def is_book(thing):
    if not isinstance(thing, tuple) or len(thing) != 2:
        return False
    if not all([isinstance(part, dict) for part in thing]):
        return False
    return are_names(list(thing[0]) + list(thing[1])) and are_values(thing[0]) and are_recipes(thing[1])


def are_names(found):
    if len(found) > MOST_NAMES or not all([is_name(name) for name in found]):
        return False
    return len(set(found)) == len(found)


def are_values(told):
    return all([is_value(value) for value in told.values()])


def are_recipes(recipes):
    return all([is_recipe(recipe) for recipe in recipes.values()])


def names_of(book):
    return sorted(list(book[0]) + list(book[1]))


def sort_at(book, name):
    if name in book[0]:
        return "told"
    if name in book[1]:
        return "made"
    return "lacks"


def is_honest_book(book):
    return all([is_honest(recipe) for recipe in book[1].values()])
