"""Stamps: a value is written as a text, and a text is read as the value it writes (point 11)."""

from redo.values import MOST_ROWS, has_only, is_value, is_whole

FIGURES = "0123456789"
MOST_FIGURES = 19


def stamp_of(value):
    if is_whole(value):
        return str(value)
    if isinstance(value, str):
        return "'" + value
    return "(" + ",".join([stamp_of(part) for part in value]) + ")"


def value_by(text):
    found = value_at(text, 0, MOST_ROWS)
    if found is None or found[1] < len(text):
        return None
    # Reading asks for the form alone; the bounds of values are told in one place.
    return found[0] if is_value(found[0]) else None


# What is read at a place is told with the place behind it, or as None where the form is broken.

def value_at(text, at, rows_left):
    if text[at:at + 1] != "(":
        return single_at(text, at)
    # Brackets that no value can have are not followed, so the calls stay few in any text.
    if rows_left == 0:
        return None
    return row_at(text, at + 1, rows_left - 1)


def row_at(text, at, rows_left):
    if text[at:at + 1] == ")":
        return ((), at + 1)
    parts = []
    while True:
        found = value_at(text, at, rows_left)
        if found is None:
            return None
        parts.append(found[0])
        at = found[1] + 1
        sign = text[found[1]:at]
        if sign == ")":
            return (tuple(parts), at)
        if sign != ",":
            return None


def single_at(text, at):
    behind = at
    while behind < len(text) and text[behind] not in "(),":
        behind = behind + 1
    single = single_by(text[at:behind])
    return None if single is None else (single, behind)


def single_by(word):
    if word.startswith("'"):
        return word[1:]
    return number_by(word)


def number_by(word):
    figures = word[1:] if word.startswith("-") else word
    # Python reads no number of any length, so those beyond all bounds are left out ahead.
    if word == "-0" or len(figures) > MOST_FIGURES or not is_figures(figures):
        return None
    return int(word)


def is_figures(text):
    if text == "" or not has_only(text, FIGURES):
        return False
    return text == "0" or not text.startswith("0")
