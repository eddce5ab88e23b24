"""The small checker: which papers it lets by, and what they show (points 37 and 38)."""

from redo.books import sort_at
from redo.lines import is_line, is_right
from redo.stamps import stamp_of

MOST_LINES = 100


def lets_by(book, paper):
    if not is_paper(paper) or not are_of_the_book(book, paper):
        return False
    if not all([is_right(book[1][line[0]], line) for line in paper]):
        return False
    ends = shown_by(paper)
    return are_reads_shown(book, paper) and all([is_end_shown(book, ends, line[2]) for line in paper])


def is_paper(thing):
    return isinstance(thing, list) and len(thing) <= MOST_LINES and all([is_line(part) for part in thing])


def are_of_the_book(book, paper):
    names = [line[0] for line in paper]
    return len(set(names)) == len(names) and all([sort_at(book, name) == "made" for name in names])


def are_reads_shown(book, paper):
    # Only told things and lines ahead count, so nothing is ever shown by what it shows itself.
    ahead = {}
    for name, value in book[0].items():
        ahead[name] = ("made", stamp_of(value))
    for line in paper:
        if not all([ahead.get(read[0]) == ("made", read[1]) for read in line[1]]):
            return False
        ahead[line[0]] = line[2]
    return True


def is_end_shown(book, ends, end):
    if end[0] != "wants":
        return True
    if end[1] in ends:
        return ends[end[1]][0] != "made"
    return sort_at(book, end[1]) == "lacks"


def shown_by(paper):
    ends = {}
    for line in paper:
        ends[line[0]] = line[2]
    return ends
