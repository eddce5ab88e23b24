"""Second, plain readings of the document: slow, and in another way than the package."""

from redo.replays import replay
from redo.stamps import stamp_of, value_by


def gone(recipe, good):
    """What is read and peeked, pairs (name, value), and what the recipe comes to by good values."""
    reads = []
    peeks = []
    while True:
        came = replay(recipe, reads, peeks)
        if came[0] not in ("wants", "peeks") or came[1] not in good:
            return reads, peeks, came
        (reads if came[0] == "wants" else peeks).append((came[1], good[came[1]]))


def good(book):
    """The least that fulfils point 32: from the told things up, all recipes from their beginning each time."""
    found = dict(book[0])
    while True:
        more = dict(book[0])
        for name, recipe in book[1].items():
            came = gone(recipe, found)[2]
            if came[0] == "made":
                more[name] = came[1]
        if more == found:
            return found
        found = more


def line(book, name):
    """The line of a made thing (33)."""
    reads, _, came = gone(book[1][name], good(book))
    end = {"made": ("made", stamp_of(came[1]) if came[0] == "made" else None), "fails": came}
    return (name, tuple((one, stamp_of(value)) for one, value in reads), end.get(came[0], ("wants", came[1])))


def result(book, name, row=()):
    """What a fresh making gives (34), by calling itself along the row of wants."""
    found = good(book)
    if name in found:
        return ("made", found[name])
    if name in row:
        return ("ring", row + (name,))
    row = row + (name,)
    if name not in book[1]:
        return ("lacks", row)
    end = line(book, name)[2]
    return ("fails", row, end[1]) if end[0] == "fails" else result(book, end[1], row)


def right(recipe, given):
    """Whether a line is right by a recipe (36): walked want by want."""
    _, reads, end = given
    for many in range(len(reads) + 1):
        came = replay(recipe, [(name, value_by(stamp)) for name, stamp in reads[:many]], [])
        if many < len(reads):
            if came != ("wants", reads[many][0]):
                return False
        elif came[0] == "made":
            return end[0] == "made" and value_by(end[1]) == came[1]
        else:
            return end == came


def let_by(book, paper):
    """Whether a list of lines is let by (37), each of its rows told by itself."""
    names = [name for name, _, _ in paper]
    if len(paper) > 100 or sorted(set(names)) != sorted(names):
        return False
    for place, (name, reads, end) in enumerate(paper):
        if name not in book[1] or not right(book[1][name], paper[place]):
            return False
        for read, stamp in reads:
            told = read in book[0] and stamp_of(book[0][read]) == stamp
            if not told and not any(one == read and last == ("made", stamp) for one, _, last in paper[:place]):
                return False
        if end[0] == "wants":
            lacks = end[1] not in book[0] and end[1] not in book[1]
            if not lacks and not any(one == end[1] and last[0] != "made" for one, _, last in paper):
                return False
    return True
