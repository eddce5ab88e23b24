"""Second, plain readings of the document: slow, and in another way than the package."""

from redo.recipetexts import read_recipe, show_recipe
from redo.replays import replay
from redo.stamps import stamp_of, value_by


def gone(recipe, good):
    """What is read and peeked, pairs (name, value), and what the recipe comes to by good values."""
    reads = []
    peeks = []
    while True:
        came = replay(recipe, reads, peeks)
        if came[0] not in ("wants", "peeks") or came[1] not in good:
            return reads, peeks, came
        (reads if came[0] == "wants" else peeks).append((came[1], good[came[1]]))


def good(book):
    """The least that fulfils point 32: from the told things up, all recipes from their beginning each time."""
    found = dict(book[0])
    while True:
        more = dict(book[0])
        for name, recipe in book[1].items():
            came = gone(recipe, found)[2]
            if came[0] == "made":
                more[name] = came[1]
        if more == found:
            return found
        found = more


def line(book, name):
    """The line of a made thing (33)."""
    reads, _, came = gone(book[1][name], good(book))
    end = {"made": ("made", stamp_of(came[1]) if came[0] == "made" else None), "fails": came}
    return (name, tuple((one, stamp_of(value)) for one, value in reads), end.get(came[0], ("wants", came[1])))


def result(book, name, row=()):
    """What a fresh making gives (34), by calling itself along the row of wants."""
    found = good(book)
    if name in found:
        return ("made", found[name])
    if name in row:
        return ("ring", row + (name,))
    row = row + (name,)
    if name not in book[1]:
        return ("lacks", row)
    end = line(book, name)[2]
    return ("fails", row, end[1]) if end[0] == "fails" else result(book, end[1], row)


def right(recipe, given):
    """Whether a line is right by a recipe (36): walked want by want."""
    _, reads, end = given
    for many in range(len(reads) + 1):
        came = replay(recipe, [(name, value_by(stamp)) for name, stamp in reads[:many]], [])
        if many < len(reads):
            if came != ("wants", reads[many][0]):
                return False
        elif came[0] == "made":
            return end[0] == "made" and value_by(end[1]) == came[1]
        else:
            return end == came


def let_by(book, paper):
    """Whether a list of lines is let by (37), each of its rows told by itself."""
    names = [name for name, _, _ in paper]
    if len(paper) > 100 or sorted(set(names)) != sorted(names):
        return False
    for place, (name, reads, end) in enumerate(paper):
        if name not in book[1] or not right(book[1][name], paper[place]):
            return False
        for read, stamp in reads:
            told = read in book[0] and stamp_of(book[0][read]) == stamp
            if not told and not any(one == read and last == ("made", stamp) for one, _, last in paper[:place]):
                return False
        if end[0] == "wants":
            lacks = end[1] not in book[0] and end[1] not in book[1]
            if not lacks and not any(one == end[1] and last[0] != "made" for one, _, last in paper):
                return False
    return True


def end_now(book, name):
    """The end now of a name (51)."""
    if name in book[0]:
        return ("made", stamp_of(book[0][name]))
    return line(book, name)[2] if name in book[1] else ("lacks",)


def reason(book, held, name):
    """The reason why the line of a made name doesn't stand (57): the first of all that are so."""
    if name not in held:
        return ("none",)
    text, (_, reads, end) = held[name]
    found = [("recipe",)] if text != show_recipe(book[1][name]) else []
    for place, (read, stamp) in enumerate(reads):
        if end_now(book, read) != ("made", stamp):
            found.append(("read", place, read, stamp, end_now(book, read)))
    if end[0] == "wants" and end_now(book, end[1])[0] == "made":
        found.append(("wanted", end[1], end_now(book, end[1])[1]))
    return found[0] if found else None


def reached(held, names):
    """The names reached by held (53), by calling itself."""
    found = set()

    def reach(name):
        if name not in found:
            found.add(name)
            if name in held:
                _, reads, end = held[name][1]
                for read, _ in reads:
                    reach(read)
                if end[0] == "wants":
                    reach(end[1])

    for name in names:
        reach(name)
    return sorted(found)


def came_to(name, came, reads):
    """The line of a recipe that came there by these reads, pairs (name, stamp)."""
    if came[0] == "made":
        return (name, tuple(reads), ("made", stamp_of(came[1])))
    return (name, tuple(reads), came if came[0] == "fails" else ("wants", came[1]))


def is_honest(recipe):
    """No peek is in it (14)."""
    return recipe[0] != "peek" and all(is_honest(part) for part in recipe[2:])


def is_entry(text, reads, end):
    """Whether it is an entry (74): of a recipe's text, pairs of names and stamps, and a made or failing end."""
    recipe = read_recipe(text)
    return is_honest(recipe) and end[0] != "wants" and right(recipe, ("", reads, end))


def found(entries, text, reads):
    """What a shelf of these entries tells (75)."""
    ends = [end for other, had, end in entries if other == text and had == reads]
    nexts = [had[len(reads)][0] for other, had, _ in entries
             if other == text and len(had) > len(reads) and had[:len(reads)] == reads]
    return (ends + nexts + [None])[0]


def brought(book, held, names, entries=None):
    """What bringing tells (54, 55), by calling itself; where a list of entries is handed in, by a shelf of these,
    on which what is done is put (78)."""
    held, log, lines = dict(held), [], {}

    def stamp(name):
        """The stamp of what is made by now, else None."""
        if name in book[0]:
            return stamp_of(book[0][name])
        end = lines[name][2] if lines.get(name) else ("lacks",)
        return end[1] if end[0] == "made" else None

    def brought_stamp(name):
        bring(name)
        return stamp(name)

    def kept(name, text):
        if name not in held or held[name][0] != text:
            return None
        _, reads, end = held[name][1]
        as_read = all(brought_stamp(read) == was for read, was in reads)
        return held[name][1] if as_read and (end[0] != "wants" or brought_stamp(end[1]) is None) else None

    def fetched(name, text):
        reads = ()
        while True:
            answer = found(entries or [], text, reads)
            if answer is None:
                return None, None
            if isinstance(answer, tuple):
                return "fetched", (name, reads, answer)
            if brought_stamp(answer) is None:
                return "done", (name, reads, ("wants", answer))
            reads += ((answer, stamp(answer)),)

    def done(name, recipe):
        reads, given, peeks = [], [], []
        while True:
            came = replay(recipe, given, peeks)
            if came[0] not in ("wants", "peeks") or brought_stamp(came[1]) is None:
                return came_to(name, came, reads)
            if came[0] == "wants":
                reads.append((came[1], stamp(came[1])))
            (given if came[0] == "wants" else peeks).append((came[1], value_by(stamp(came[1]))))

    def bring(name):
        if name not in book[1] or name in lines:
            return
        lines[name] = None
        text = show_recipe(book[1][name])
        word, line = "kept", kept(name, text)
        if line is None:
            word, line = fetched(name, text)
        if line is None:
            word, line = "done", done(name, book[1][name])
        lines[name] = line
        held[name] = (text, line)
        log.append((word, name))
        shelved = (text,) + line[1:]
        if entries is not None and word == "done" and is_entry(*shelved) and shelved not in entries:
            entries.append(shelved)

    for name in names:
        bring(name)
    return held, log


def stale(book, held):
    """The stale names (90)."""
    own = [name for name in sorted(held) if name in book[1] and held[name][0] == show_recipe(book[1][name])]
    return [name for name in own if not is_honest(book[1][name]) and held[name][1] != line(book, name)]


def course(book, held, name, reads):
    """A task of a weave (70): it tells what it waits for, and is given the stamp of that, or None."""
    text, recipe = show_recipe(book[1][name]), book[1][name]
    if name in held and held[name][0] == text:
        kept = held[name][1]
        for read, stamp in kept[1]:
            if (yield "look", read) != stamp:
                break
            reads.append((read, stamp))
        else:
            if kept[2][0] != "wants" or (yield "end", kept[2][1]) is None:
                return "kept", kept
    reads.clear()
    given, peeks = [], []
    while True:
        came = replay(recipe, given, peeks)
        if came[0] not in ("wants", "peeks"):
            return "done", came_to(name, came, reads)
        stamp = yield "do", came[1]
        if stamp is None:
            return "done", came_to(name, came, reads)
        if came[0] == "wants":
            reads.append((came[1], stamp))
        (given if came[0] == "wants" else peeks).append((came[1], value_by(stamp)))


class Weaving:
    """A weave (70 to 73), each of its tasks a course."""

    def __init__(self, book, held, names):
        self.book, self.held, self.log = book, dict(held), []
        self.tasks, self.stamps = {}, {name: stamp_of(value) for name, value in book[0].items()}
        for name in names:
            self.begin(name)

    def begin(self, name):
        if name in self.book[1] and name not in self.tasks:
            reads = []
            # What it waits for: nothing yet; at last, when it is settled, False.
            self.tasks[name] = [course(self.book, self.held, name, reads), reads, None]

    def is_settled(self, name):
        return name not in self.book[1] or name in self.tasks and self.tasks[name][2] is False

    def left(self):
        return sorted(name for name in self.tasks if not self.is_settled(name))

    def ready(self):
        waits = {name: self.tasks[name][2] for name in self.left()}
        return [name for name, waited in waits.items() if waited is None or self.is_settled(waited[1])]

    def move(self, name):
        task = self.tasks[name]
        try:
            task[2] = task[0].send(task[2] and self.stamps.get(task[2][1]))
            self.begin(task[2][1])
        except StopIteration as stopped:
            self.settle(name, *stopped.value)
        if not self.ready():
            for left in self.left():
                _, reads, (where, waited) = self.tasks[left]
                kept = where == "end"
                self.settle(left, "kept" if kept else "done",
                            self.held[left][1] if kept else (left, tuple(reads), ("wants", waited)))

    def settle(self, name, word, line):
        self.tasks[name][2] = False
        self.held[name] = (show_recipe(self.book[1][name]), line)
        self.log.append((word, name))
        if line[2][0] == "made":
            self.stamps[name] = line[2][1]


def nexts(given):
    """What a line does behind each beginning of its reads: ("name", name) where it wants, else its end."""
    _, reads, end = given
    found = {reads[:k]: ("name", read[0]) for k, read in enumerate(reads)}
    found[reads] = ("name", end[1]) if end[0] == "wants" else end
    return found


def at_odds(one, other):
    """Whether two lines are at odds (92): behind some reads that both began with they do unlike things."""
    ones, others = nexts(one), nexts(other)
    return any(ones[reads] != others[reads] for reads in ones if reads in others)


def faults(shown):
    """The faults (94) of a watch that was shown these pairs (text, line), in this order."""
    found = []
    for place, (text, given) in enumerate(shown):
        elder = [line for other, line in shown[:place] if other == text and at_odds(line, given)]
        found += [(text, elder[0], given)] if elder else []
    return found


def ordered(paper):
    """Whether each line stands behind the lines of all names that it reads, where these have one (53)."""
    places = {given[0]: place for place, given in enumerate(paper)}
    return all(places.get(read, -1) < places[name] for name, reads, _ in paper for read, _ in reads)
