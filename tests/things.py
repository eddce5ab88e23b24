"""Things of many kinds for the tests; values, exprs, recipes and books by a fixed row of numbers."""

import random
import string

from redo.lines import is_right
from redo.making import good_values, line_of
from redo.recipes import is_honest
from redo.recipetexts import show_recipe
from redo.replays import replay
from redo.stamps import stamp_of, value_by

# A value of just forty.
FORTY = ((0,) * 8, (0,) * 8, (0,) * 8, (0,) * 7, 0, 0, 0, 0)


class Touchy:
    """A thing that can't be compared, counted, walked, or shown."""

    __hash__ = None

    def refuse(self, *args):
        raise RuntimeError("touched")

    __eq__ = __ne__ = __lt__ = __le__ = __gt__ = __ge__ = refuse
    __len__ = __iter__ = __getitem__ = __bool__ = __repr__ = __str__ = __int__ = __index__ = refuse


def ringed_list():
    ring = []
    ring.append(ring)
    return ring


def ringed_tuple():
    inner = []
    ring = (inner,)
    inner.append(ring)
    return ring


def nested(part, depth):
    for _ in range(depth):
        part = (part,)
    return part


def shared(part, depth, breadth=8):
    """A row that shares its parts: great beyond counting, for a few tuples."""
    for _ in range(depth):
        part = (part,) * breadth
    return part


def odd_things():
    """Things that are no names, no values and no exprs."""
    return [
        None, True, False, 0.0, 1.0, float("nan"), float("inf"), 1j, b"", b"a", bytearray(b"a"),
        [], ["a"], [1, 2], {}, {"a": 1}, set(), {1}, frozenset(), frozenset(["a"]), range(3), object(),
        object, len, str, int, iter([1]), (x for x in (1,)), lambda: 1, Touchy(), ringed_list(), ringed_tuple(),
        Ellipsis, NotImplemented, Exception("a"), memoryview(b"a"),
    ]


def single(source):
    if source.random() < 0.5:
        return source.choice([0, 1, -1, 7, -10, 10 ** 18, -10 ** 18, source.randint(-10 ** 18, 10 ** 18)])
    many = source.choice([0, 1, 2, 5, 19, 20])
    return "".join([source.choice("abcxyz0189-") for _ in range(many)])


def value(source, rows_left=4):
    """Any value, but that it may be of more than forty."""
    if rows_left == 0 or source.random() < 0.4:
        return single(source)
    return tuple([value(source, rows_left - 1) for _ in range(source.randint(0, 4))])


def source(seed):
    return random.Random(seed)


def expr(source, depth, got):
    """Any expr for so many values got, at most so deep."""
    if depth <= 1 or source.random() < 0.4:
        if got > 0 and source.random() < 0.5:
            return ("got", source.randrange(got))
        return ("put", source.choice([0, 1, -3, "", "a", "bread", "c-4", (), (1, "b"), single(source)]))
    word = source.choice(["row", "many", "part", "sum", "join", "same", "less"])
    if word == "row":
        return ("row", tuple([expr(source, depth - 1, got) for _ in range(source.randint(0, 3))]))
    return (word,) + tuple([expr(source, depth - 1, got) for _ in range(1 if word == "many" else 2)])


def asked(source, got, wanted):
    """An expr that often tells a name."""
    return ("put", source.choice(wanted)) if source.random() < 0.7 else expr(source, 2, got)


ALL_WORDS = ("say", "fail", "want", "peek", "when")


def recipe(source, depth, got=0, words=ALL_WORDS, wanted=("a", "b", "c")):
    """Any recipe, but that it may be too great, too deep, or of too many wants."""
    word = source.choice([word for word in words if depth > 2 or word in ("say", "fail")])
    if word == "fail":
        return ("fail", source.choice(["a", "sour", "zzzzzzzz"]))
    if word == "say":
        return ("say", expr(source, min(depth - 1, 4), got))
    if word == "when":
        ways = tuple([recipe(source, depth - 1, got, words, wanted) for _ in range(2)])
        return ("when", expr(source, 3, got)) + ways
    return (word, asked(source, got, wanted), recipe(source, depth - 1, got + 1, words, wanted))


def right_recipe(source, depth, words=ALL_WORDS, wanted=("a", "b", "c")):
    """Any recipe of point 14."""
    while True:
        found = recipe(source, depth, 0, words, wanted)
        size = measured(found)
        if size[0] <= 60 and size[1] <= 20 and size[2] <= 12:
            return found


def measured(recipe):
    """How many, how deep, and the most wants and peeks on a way, of a recipe or an expr."""
    if recipe[0] in ("put", "got", "fail"):
        return (1, 1, 0)
    sizes = [measured(part) for part in (recipe[1] if recipe[0] == "row" else recipe[1:])]
    many = 1 + sum([size[0] for size in sizes])
    deep = 1 + max([size[1] for size in sizes], default=0)
    wants = max([size[2] for size in sizes], default=0)
    return (many, deep, wants + (1 if recipe[0] in ("want", "peek") else 0))


def expr_of(many):
    """An expr of so many in all, at most five deep where they are at most sixty."""
    if many == 1:
        return ("put", 1)
    left = many - 1
    parts = []
    while left > 0:
        places = 8 - len(parts)
        take = max(1, (left + places - 1) // places)
        parts.append(expr_of(take))
        left -= take
    return ("row", tuple(parts))


def chain(depth, leaf=("put", 1)):
    """An expr so deep, where the leaf is one deep."""
    found = leaf
    for _ in range(depth - 1):
        found = ("many", found)
    return found


def asking(words, last, name="a"):
    """A recipe that asks by these words, want or peek, one behind the other, and then does the last one."""
    found = last
    for word in reversed(words):
        found = (word, ("put", name), found)
    return found


def names(many):
    """So many names, rising."""
    return [one + other for one in "ab" for other in string.ascii_lowercase][:many]


NAMES = tuple("abcdefghij")
HONEST = ("say", "want", "when", "fail")
PEEKING = HONEST + ("peek",)
# Many wants, few failings: books of such recipes have good things of many reads, and others.
WEIGHTS = {"say": 3, "want": 8, "when": 3, "fail": 1, "peek": 3}


def book(source, words=PEEKING):
    """Any book of some of the names a to j; the others lack."""
    told = {}
    made = {}
    wanted = NAMES[:source.choice([2, 4, 7, 10])]
    for name in source.sample(wanted, source.randint(len(wanted) // 2, len(wanted))):
        if source.random() < 0.35:
            told[name] = source.choice([0, 1, 2, "", "a", "f", "c", (), (0, "b"), (1, 2, 3), value(source, 1)])
        else:
            # More often than others those ahead of it are wanted, so that not all goes round.
            pool = (list(told) + list(made)) * source.choice([0, 3, 9]) + list(wanted)
            made[name] = right_lively(source, source.randint(0, 5), words, pool)
    return (told, made)


def right_lively(source, depth, words, wanted):
    while True:
        found = lively(source, depth, 0, words, wanted)
        if measured(found)[0] <= 60:
            return found


def lively(source, depth, got, words, wanted):
    """A recipe that mostly doesn't fail, on each way at most so many wants, peeks and whens."""
    able = [word for word in words if depth > 0 or word in ("say", "fail")]
    word = source.choices(able, [WEIGHTS[word] for word in able])[0]
    if word == "fail":
        return ("fail", source.choice(["sour", "x"]))
    if word == "say":
        return ("say", saying(source, got))
    if word == "when":
        ways = tuple([lively(source, depth - 1, got, words, wanted) for _ in range(2)])
        return ("when", tested(source, got)) + ways
    name = ("got", source.randrange(got)) if got > 0 and source.random() < 0.1 else ("put", source.choice(wanted))
    return (word, name, lively(source, depth - 1, got + 1, words, wanted))


def saying(source, got):
    if got > 0 and source.random() < 0.8:
        one, other = ("got", source.randrange(got)), ("got", source.randrange(got))
        return source.choice([one, one, ("same", one, other), ("row", ()), ("row", (one,)), ("sum", one, other),
                              ("join", one, other), ("many", one), ("less", one, ("put", 1))])
    return ("put", source.choice([0, 1, 2, "", "a", "b", "d", (), (1,)]))


def tested(source, got):
    if got > 0 and source.random() < 0.8:
        one = ("got", source.randrange(got))
        return source.choice([one, ("same", one, ("put", source.choice([0, 1, "a", ()]))), ("less", one, ("put", 1))])
    return ("put", source.choice([0, 1, "", "a", (), (0,)]))


def reads(source):
    """Any reads of a line, of few names and stamps."""
    many = source.choice([0, 0, 1, 1, 2, 3])
    return tuple([(source.choice(NAMES[:3]), source.choice(["0", "1", "'a", "'", "()", "(1)"])) for _ in range(many)])


def nearly(source, recipe, line):
    """The line with reads as the recipe wants them, as far as it goes, and often with its end."""
    found = []
    while True:
        came = replay(recipe, [(name, value_by(stamp)) for name, stamp in found], [])
        if came[0] != "wants" or source.random() < 0.2:
            break
        found.append((came[1], source.choice(["0", "1", "'a", "'b", "()", "(1)"])))
    if source.random() < 0.2 or came[0] == "peeks":
        return (line[0], tuple(found), line[2])
    return (line[0], tuple(found), ("made", stamp_of(came[1])) if came[0] == "made" else came)


def held(source, filled, words=PEEKING):
    """What may be held by now: lines of many of the book's made things, some of them by other reads or recipes."""
    found = {}
    for name in source.sample(list(filled[1]), source.randint(0, len(filled[1]))):
        recipe = filled[1][name]
        if source.random() < 0.1:
            recipe = right_lively(source, 3, words, NAMES[:4])
        line = line_of((filled[0], dict(filled[1], **{name: recipe})), name)
        if source.random() < 0.2:
            line = nearly(source, recipe, line)
        text = show_recipe(recipe)
        if "peek" in text or is_right(recipe, line):
            found[name] = (text, line)
    return found


def changed(source, filled, words=PEEKING):
    """The book, some of its things told, made or struck otherwise."""
    told, made = dict(filled[0]), dict(filled[1])
    for name in source.sample(NAMES, source.choice([0, 1, 1, 2, 3])):
        told.pop(name, None)
        made.pop(name, None)
        way = source.random()
        if way < 0.5:
            told[name] = source.choice([0, 1, "", "a", ()])
        elif way < 0.8:
            made[name] = right_lively(source, 3, words, NAMES)
    return (told, made)


def busy(source, words):
    """A book of few told things, on which much hangs, and many made ones, some of which go round."""
    made = {}
    is_steady = source.random() < 0.4
    for name in NAMES[:8]:
        ahead = [other for other in NAMES[:8] if other > name]
        pool = ["i", "j"] * 3 + ahead * source.choice([1, 4]) + list(NAMES[:8]) * source.choice([0, 0, 1]) + ["zz"]
        depth = source.randint(1, 5)
        made[name] = steady(source, words, pool) if is_steady else right_lively(source, depth, words, pool)
    return ({"i": source.choice([0, 1]), "j": source.choice([0, 1, "a"])}, made)


def steady(source, words, wanted):
    """A recipe that asks for some things and says what it got: so a change goes far."""
    asks = [source.choice([word for word in words if word in ("want", "peek")]) for _ in range(source.randint(1, 3))]
    found = ("say", source.choice([("got", len(asks) - 1), ("got", 0), ("same", ("got", 0), ("put", 1))]))
    for word in asks:
        found = (word, ("put", source.choice(wanted)), found)
    return found


def turned(source, filled, words):
    """The book with its told things told otherwise, and at times another change."""
    told, made = changed(source, filled, words) if source.random() < 0.3 else filled
    return ({name: source.choice([0, 1, 1, "a", "c", ()]) for name in told}, dict(made))


def elder(source, words=PEEKING):
    """A book, and held lines of some books that were ahead of it."""
    now = source.choice([book, busy, busy])(source, words)
    kept = {}
    for _ in range(source.choice([0, 1, 1, 2, 4])):
        if source.random() < 0.5:
            kept.update({name: (show_recipe(recipe), line_of(now, name)) for name, recipe in now[1].items()})
        kept.update(held(source, now, words))
        now = source.choice([changed, turned, turned])(source, now, words)
    return now, kept


def asked_names(source, filled):
    """Names as they may be asked for: made ones most, told and lacking ones, some twice, or none."""
    pool = list(NAMES) + sorted(filled[1]) * 4
    return [source.choice(pool) for _ in range(source.choice([0, 1, 1, 2, 3, 6, 12]))]


def line_by(text):
    """A line from words: its name, its reads' names and stamps, a colon, and the end's two words."""
    ahead, _, behind = text.partition(" : ")
    words = ahead.split(" ")
    return (words[0], tuple(zip(words[1::2], words[2::2])), tuple(behind.split(" ")))


def held_by(filled, *texts):
    """Held of these lines, each with the text of the book's own recipe."""
    lines = [line_by(text) for text in texts]
    return {line[0]: (show_recipe(filled[1][line[0]]), line) for line in lines}


def entry(text, words):
    """An entry of a recipe's text, from words as line_by takes them, but without a name: "b 1 : made 1"."""
    return (text,) + line_by("x " + words)[1:]


def entry_along(source, recipe, good):
    """An entry of an honest recipe, read mostly by good values."""
    found = []
    while True:
        came = replay(recipe, found, [])
        if came[0] != "wants":
            end = ("made", stamp_of(came[1])) if came[0] == "made" else came
            return (show_recipe(recipe), tuple([(name, stamp_of(read)) for name, read in found]), end)
        pool = [0, 1, "a", "c", ()] + [good[came[1]]] * 12 if came[1] in good else [0, 1, "a", "c", ()]
        found.append((came[1], source.choice(pool)))


def line_along(source, recipe, name="a", pool=(0, 1, "a", "b", (), (1,))):
    """A line that is right by an honest recipe, of values of that pool, and often one that ends with wants."""
    found = []
    while True:
        came = replay(recipe, found, [])
        if came[0] != "wants" or source.random() < 0.1:
            end = ("made", stamp_of(came[1])) if came[0] == "made" else came
            return (name, tuple([(read, stamp_of(got)) for read, got in found]), end)
        found.append((came[1], source.choice(pool)))


def entries(source, filled):
    """Any honest entries, many of them of the book's recipes, some twice, or none."""
    recipes = [recipe for recipe in filled[1].values() if is_honest(recipe)]
    good = good_values(filled)
    found = []
    for _ in range(source.choice([0, 1, 3, 8, 20])):
        other = right_lively(source, 3, HONEST, NAMES)
        found.append(entry_along(source, source.choice(recipes * 4 + [other]), good))
    return found


def shuffled(source, filled):
    """The same book, its dicts filled in another order."""
    return tuple([dict(source.sample(list(part.items()), len(part))) for part in filled])


def book_of(told, made):
    """A book of so many told and so many made things."""
    found = names(told + made)
    return (dict.fromkeys(found[:told], 7), dict.fromkeys(found[told:], ("say", ("put", 1))))
