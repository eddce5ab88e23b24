"""Recipes: what they are, how great they are, and which are honest (point 14)."""

from redo.exprs import exprs_within, is_shaped
from redo.values import is_name

MOST_PARTS_IN_ALL = 60
MOST_DEEP = 20
MOST_WANTS = 12
# How many recipes stand straight in one that begins with this word.
RECIPES_WITHIN = {"say": 0, "fail": 0, "want": 1, "peek": 1, "when": 2}
# The words behind which one more value is got.
GETTING = ("want", "peek")

# A place is a tuple: "recipe" or "expr", what stands there, and how many values are got there.
# As each want and peek above gives one value, that is also how many of them stand on the way.


def is_recipe(thing):
    # Layer by layer, and never more than may be: a thing that shares its parts can be
    # too deep to follow and too great to count.
    layer = [("recipe", thing, 0)]
    counted = 0
    for above in range(MOST_DEEP):
        counted = counted + len(layer)
        if counted > MOST_PARTS_IN_ALL or not all([is_fitting(place) for place in layer]):
            return False
        layer = layer_within(layer)
    return len(layer) == 0


def is_fitting(place):
    if place[2] > MOST_WANTS:
        return False
    if place[0] == "expr":
        return is_shaped(place[1], place[2])
    return is_recipe_shaped(place[1])


def is_recipe_shaped(thing):
    if not isinstance(thing, tuple) or len(thing) < 2 or not isinstance(thing[0], str):
        return False
    if thing[0] not in RECIPES_WITHIN or len(thing) != 2 + RECIPES_WITHIN[thing[0]]:
        return False
    return thing[0] != "fail" or is_name(thing[1])


def layer_within(layer):
    inner = []
    for place in layer:
        inner.extend(places_within(place))
    return inner


def places_within(place):
    thing = place[1]
    got = place[2]
    if place[0] == "expr":
        return [("expr", part, got) for part in exprs_within(thing)]
    if thing[0] == "fail":
        return []
    behind = got_behind(thing[0], got)
    return [("expr", thing[1], got)] + [("recipe", part, behind) for part in thing[2:]]


def got_behind(word, got):
    return got + 1 if word in GETTING else got


def size_of(recipe):
    layer = [("recipe", recipe, 0)]
    many = 0
    deep = 0
    wants = 0
    while len(layer) > 0:
        many = many + len(layer)
        deep = deep + 1
        wants = max([wants] + [place[2] for place in layer])
        layer = layer_within(layer)
    return (many, deep, wants)


def is_honest(recipe):
    if recipe[0] == "peek":
        return False
    return all([is_honest(part) for part in recipe[2:]])
