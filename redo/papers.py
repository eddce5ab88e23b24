"""Papers: one that shows names of a book, and what one tells of a name (points 39, 40 and 53)."""

from redo.errors import NoLine
from redo.lines import lines_by_names
from redo.making import lines_of, result_along


def paper_of(book, names):
    lines = lines_of(book)
    return in_order(lines_reached(lines, names))


def result_by(paper, name):
    lines = lines_by_names(paper)
    if name not in lines:
        raise NoLine(name)
    return result_along(lines, name)


# From here on lines are a dict of them by their names.

def lines_reached(lines, names):
    found = {}
    for name in names_reached(lines, names):
        if name in lines:
            found[name] = lines[name]
    return found


def names_reached(lines, names):
    reached = {}
    left = list(names)
    while len(left) > 0:
        name = left.pop()
        if name not in reached:
            reached[name] = True
            left.extend(names_in(lines[name]) if name in lines else [])
    return sorted(reached)


def names_in(line):
    wanted = [line[2][1]] if line[2][0] == "wants" else []
    return [read[0] for read in line[1]] + wanted


# A list of all lines, each behind those of the names that it reads; None where reads go round.

def in_order(lines):
    paper = []
    left = dict(lines)
    while len(left) > 0:
        free = [name for name in sorted(left) if reads_none_of(left, left[name])]
        if len(free) == 0:
            return None
        for name in free:
            paper.append(left.pop(name))
    return paper


def reads_none_of(lines, line):
    return not any([read[0] in lines for read in line[1]])
