"""The shelf: what honest recipes came to by what they read, kept for whoever asks (points 74 and 75)."""

from redo.booktexts import recipe_or_none
from redo.errors import Dishonest
from redo.lines import are_reads, comes_to, is_end
from redo.recipes import is_honest


class Shelf:
    def __init__(self):
        # The entries are the keys: so each stands once, where it was put first.
        self.shelved = {}
        # By a text and reads, an end or the name of the next read. An honest recipe comes to one thing by what
        # it read, so whatever else is put, what is told here stays as it was.
        self.answers = {}

    def put(self, entry):
        # The thing may be any, so it is not shown in the error's words.
        if not is_entry(entry):
            raise Dishonest("no honest recipe came to that")
        self.shelved[entry] = True
        for k, read in enumerate(entry[1]):
            self.answers[(entry[0], entry[1][:k])] = read[0]
        self.answers[(entry[0], entry[1])] = entry[2]

    def found(self, text, reads):
        return self.answers.get((text, reads))

    def entries(self):
        return list(self.shelved)


def is_entry(thing):
    if not isinstance(thing, tuple) or len(thing) != 3 or not isinstance(thing[0], str):
        return False
    if not are_reads(thing[1]) or not is_end(thing[2]) or thing[2][0] == "wants":
        return False
    recipe = recipe_or_none(thing[0])
    return recipe is not None and is_honest(recipe) and comes_to(recipe, thing[1], thing[2])


# Puts what was done on a shelf, where it makes an entry: what peeks or ends with wants makes none.

def put_done(shelf, text, line):
    entry = (text, line[1], line[2])
    if is_entry(entry):
        shelf.put(entry)
