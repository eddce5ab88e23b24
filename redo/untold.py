"""What is read untold: lines that no one honest recipe can have come to, and a watch for such (points 92 and 94)."""


def at_odds(one, other):
    many = many_alike(one[1], other[1])
    return next_at(one, many) != next_at(other, many)


# How many reads, from the first on, are alike in name and stamp.

def many_alike(reads, others):
    many = 0
    while many < min(len(reads), len(others)) and reads[many] == others[many]:
        many = many + 1
    return many


# What a line does behind so many of its reads, as an end. A read is a want, too, but one that was fulfilled:
# so both are alike where their names are.

def next_at(line, many):
    return ("wants", line[1][many][0]) if many < len(line[1]) else line[2]


class Watch:
    def __init__(self):
        # By texts, the lines seen as keys. One seen again is kept in its first place: a later one is never told.
        self.seen = {}
        self.odd = []

    def saw(self, text, line):
        lines = self.seen.setdefault(text, {})
        elder = first_at_odds(list(lines), line)
        lines[line] = True
        if elder is not None:
            self.odd.append((text, elder, line))
        return elder

    def faults(self):
        return list(self.odd)


def first_at_odds(lines, line):
    for other in lines:
        if at_odds(other, line):
            return other
    return None
