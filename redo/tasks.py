"""Tasks: how one made thing comes to its line, by one thing behind the other (points 54, 70 and 72)."""

from redo.making import awaited_at, given, line_from, start_of
from redo.papers import names_in
from redo.stamps import stamp_of


class Task:
    # The line is the held one by the thing's own recipe, None where there is no such.
    def __init__(self, name, recipe, line):
        self.name = name
        self.recipe = recipe
        # What is looked through still, and how many of its things were as it tells; None from when the recipe is done.
        self.line = line
        self.looked = 0
        self.come = None
        # The thing that it waits for: None at first, and when it is at its end.
        self.awaited = None
        self.ended = False

    # One move: takes the thing that is waited for, if any, by the good values, and goes on to the next one.
    def go_on(self, good):
        if self.awaited is not None and self.line is not None:
            self.look(good)
        elif self.awaited is not None:
            self.receive(good)
        if self.line is None and self.come is None:
            self.come = start_of(self.recipe)
        self.awaited = None if self.ended else self.awaited_now()
        self.ended = self.awaited is None

    def look(self, good):
        if is_as_it_was(self.line, self.looked, good):
            self.looked = self.looked + 1
        else:
            self.line = None

    def receive(self, good):
        if self.awaited in good:
            self.come = given(self.come, good[self.awaited])
        else:
            self.ended = True

    def awaited_now(self):
        if self.line is None:
            return awaited_at(self.come)
        names = names_in(self.line)
        return names[self.looked] if self.looked < len(names) else None

    # How the thing is settled, and its line; of one that goes round, too: by what it came to while it waits.
    def outcome(self):
        if self.line is None:
            return ("done", line_from(self.name, self.come))
        reads = self.line[1]
        if self.looked < len(reads):
            return ("done", (self.name, reads[:self.looked], ("wants", reads[self.looked][0])))
        return ("kept", self.line)


# Whether the thing of this place of a line is by good values as the line tells it.

def is_as_it_was(line, place, good):
    if place == len(line[1]):
        return line[2][1] not in good
    read = line[1][place]
    return read[0] in good and stamp_of(good[read[0]]) == read[1]
