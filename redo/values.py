"""Names and values: what they are, how deep and how many a value is (points 3 and 10)."""

LETTERS = "abcdefghijklmnopqrstuvwxyz"
TEXT_SIGNS = "abcdefghijklmnopqrstuvwxyz0123456789-"
MOST_LETTERS = 8
MOST_SIGNS = 20
MOST_PARTS = 8
MOST_ROWS = 4
MOST_VALUES = 40


def is_whole(thing):
    # Python counts the truths among its ints; here they are no whole numbers.
    return isinstance(thing, int) and not isinstance(thing, bool)


def has_only(text, signs):
    return all([sign in signs for sign in text])


def is_name(thing):
    return isinstance(thing, str) and 1 <= len(thing) <= MOST_LETTERS and has_only(thing, LETTERS)


def is_single(thing):
    if is_whole(thing):
        return abs(thing) <= 10 ** 18
    return isinstance(thing, str) and len(thing) <= MOST_SIGNS and has_only(thing, TEXT_SIGNS)


def is_built(thing, rows_left):
    if not isinstance(thing, tuple):
        return is_single(thing)
    if rows_left == 0 or len(thing) > MOST_PARTS:
        return False
    return all([is_built(part, rows_left - 1) for part in thing])


def is_value(thing):
    # Counting comes last: a thing that may be of any depth or breadth can be too great to count.
    return is_built(thing, MOST_ROWS) and many_of(thing) <= MOST_VALUES


def deep_of(value):
    if not isinstance(value, tuple):
        return 0
    return 1 + max([deep_of(part) for part in value], default=0)


def many_of(value):
    if not isinstance(value, tuple):
        return 1
    return 1 + sum([many_of(part) for part in value])
