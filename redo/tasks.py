"""Tasks: how one made thing comes to its line, by one thing behind the other (points 54, 70, 72 and 78)."""

from redo.making import awaited_at, given, line_from, start_of
from redo.papers import names_in
from redo.recipetexts import show_recipe
from redo.stamps import stamp_of


class Task:
    # The line is the held one by the thing's own recipe, or None; so is the shelf, where none is asked.
    def __init__(self, name, recipe, line, shelf):
        self.name = name
        self.recipe = recipe
        self.text = show_recipe(recipe)
        # The line is looked through first: how many of its things were as it tells. None when it can't be kept.
        self.line = line
        self.looked = 0
        # Then the shelf is asked: what was read as it told, and what it told last.
        self.store = shelf
        self.fetched = ()
        self.answer = None
        # Where that tells nothing the recipe is done: how far it has come. None ahead of that.
        self.come = None
        # The thing that it waits for: None at first, and when it is at its end.
        self.awaited = None
        self.ended = False

    # One move: takes the thing that is waited for, if any, by the good values, and goes on to the next one.
    def go_on(self, good):
        if self.awaited is not None:
            self.receive(good)
        if self.line is None and self.come is None and not self.ended:
            self.seek()
        self.awaited = None if self.ended else self.awaited_now()
        self.ended = self.awaited is None

    def receive(self, good):
        if self.line is not None:
            self.look(good)
        elif self.awaited not in good:
            self.ended = True
        elif self.come is not None:
            self.come = given(self.come, good[self.awaited])
        else:
            self.fetched = self.fetched + ((self.awaited, stamp_of(good[self.awaited])),)

    def look(self, good):
        if is_as_it_was(self.line, self.looked, good):
            self.looked = self.looked + 1
        else:
            self.line = None

    def seek(self):
        if self.store is not None:
            self.answer = self.store.found(self.text, self.fetched)
        if self.answer is None:
            self.come = start_of(self.recipe)

    def awaited_now(self):
        if self.line is not None:
            names = names_in(self.line)
            return names[self.looked] if self.looked < len(names) else None
        if self.come is not None:
            return awaited_at(self.come)
        return self.answer if isinstance(self.answer, str) else None

    # How the thing is settled, and its line; of one that goes round, too: by what it came to while it waits.
    def outcome(self):
        if self.line is not None:
            return outcome_by(self.line, self.looked)
        if self.come is not None:
            return ("done", line_from(self.name, self.come))
        if isinstance(self.answer, str):
            return ("done", (self.name, self.fetched, ("wants", self.answer)))
        return ("fetched", (self.name, self.fetched, self.answer))


# Whether the thing of this place of a line is by good values as the line tells it.

def is_as_it_was(line, place, good):
    if place == len(line[1]):
        return line[2][1] not in good
    read = line[1][place]
    return read[0] in good and stamp_of(good[read[0]]) == read[1]


def outcome_by(line, looked):
    if looked < len(line[1]):
        return ("done", (line[0], line[1][:looked], ("wants", line[1][looked][0])))
    return ("kept", line)
