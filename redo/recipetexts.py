"""Recipes written as texts, and texts read as the recipes they write (points 15 and 16)."""

from redo.errors import BadWord
from redo.exprs import MOST_IN_ROW, WITHIN, exprs_within
from redo.recipes import GETTING, MOST_DEEP, MOST_PARTS_IN_ALL, MOST_WANTS, RECIPES_WITHIN, got_behind
from redo.stamps import stamp_of, value_by
from redo.values import is_name

# The exprs that have a word of their own behind the first one.
FILLED = ("put", "got", "row")


def show_recipe(recipe):
    return " ".join(recipe_words(recipe))


def recipe_words(recipe):
    if recipe[0] == "fail":
        return [recipe[0], recipe[1]]
    words = [recipe[0]] + expr_words(recipe[1])
    for part in recipe[2:]:
        words.extend(recipe_words(part))
    return words


def expr_words(expr):
    words = [expr[0]] + filling_words(expr)
    for part in exprs_within(expr):
        words.extend(expr_words(part))
    return words


def filling_words(expr):
    if expr[0] == "put":
        return [stamp_of(expr[1])]
    if expr[0] == "got":
        return [str(expr[1])]
    if expr[0] == "row":
        return [str(len(expr[1]))]
    return []


# The words of a text are taken one behind the other; begun counts the recipes and exprs so far.

class Words:
    def __init__(self, text):
        self.parted = text.split(" ")
        self.place = 0
        self.begun = 0

    def ahead(self):
        # No word without signs is ever as told, so it stands for one that lacks, too.
        return self.parted[self.place] if self.place < len(self.parted) else ""

    def take(self, fits):
        if not fits:
            raise BadWord(self.place)
        self.place = self.place + 1

    def begin(self, fits, above):
        # Refused here, a text is never followed deeper than a recipe may be.
        self.take(fits and above < MOST_DEEP and self.begun < MOST_PARTS_IN_ALL)
        self.begun = self.begun + 1

    def finish(self):
        if self.place < len(self.parted):
            raise BadWord(self.place)


def read_recipe(text):
    words = Words(text)
    recipe = recipe_by(words, 0, 0)
    words.finish()
    return recipe


# What is read stands within so many others (above), where so many values are got.

def recipe_by(words, above, got):
    word = words.ahead()
    words.begin(word in RECIPES_WITHIN and not (word in GETTING and got == MOST_WANTS), above)
    if word == "fail":
        return (word, name_by(words))
    expr = expr_by(words, above + 1, got)
    behind = got_behind(word, got)
    return (word, expr) + tuple([recipe_by(words, above + 1, behind) for k in range(RECIPES_WITHIN[word])])


def expr_by(words, above, got):
    word = words.ahead()
    words.begin(word in FILLED or word in WITHIN, above)
    if word == "put":
        return (word, put_by(words))
    if word == "got":
        return (word, number_below(words, got))
    if word == "row":
        return (word, exprs_by(words, number_below(words, MOST_IN_ROW + 1), above + 1, got))
    return (word,) + exprs_by(words, WITHIN[word], above + 1, got)


def exprs_by(words, many, above, got):
    return tuple([expr_by(words, above, got) for k in range(many)])


def name_by(words):
    word = words.ahead()
    words.take(is_name(word))
    return word


def put_by(words):
    value = value_by(words.ahead())
    words.take(value is not None)
    return value


def number_below(words, bound):
    # Compared as texts: one form of each number is right, and a word can be too long for int.
    figures = [str(k) for k in range(bound)]
    word = words.ahead()
    words.take(word in figures)
    return figures.index(word)
