"""Deeds: a book told again with a thing told, made or left out, and how two books differ (points 59 and 60)."""

from redo.books import MOST_NAMES, names_of, sort_at
from redo.errors import NoName, NoRecipe, NoThing, NoValue, TooMany
from redo.recipes import is_recipe
from redo.values import is_name, is_value


def told_with(book, name, value):
    refuse_no_name(name)
    if not is_value(value):
        raise NoValue("what is told is no value")
    rest = room_for(book, name)
    rest[0][name] = value
    return rest


def made_with(book, name, recipe):
    refuse_no_name(name)
    if not is_recipe(recipe):
        raise NoRecipe("what it is made by is no recipe")
    rest = room_for(book, name)
    rest[1][name] = recipe
    return rest


def without(book, name):
    refuse_no_name(name)
    if sort_at(book, name) == "lacks":
        raise NoThing("the book has no such thing")
    return rest_of(book, name)


def refuse_no_name(thing):
    # The thing may be any, so it is not shown in the error's words.
    if not is_name(thing):
        raise NoName("what it is called is no name")


def room_for(book, name):
    if sort_at(book, name) == "lacks" and len(names_of(book)) >= MOST_NAMES:
        raise TooMany("a book has at most forty names")
    return rest_of(book, name)


def rest_of(book, name):
    told = dict(book[0])
    made = dict(book[1])
    told.pop(name, None)
    made.pop(name, None)
    return (told, made)


def differing(one, other):
    names = sorted(set(names_of(one) + names_of(other)))
    return [name for name in names if thing_at(one, name) != thing_at(other, name)]


# The sort goes along: a told value and a recipe may look alike.

def thing_at(book, name):
    return (sort_at(book, name), book[0].get(name), book[1].get(name))
