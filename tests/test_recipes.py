"""Point 14: what a recipe is, how great it is, and whether it is honest."""

import copy
import unittest

import things
from redo.recipes import is_honest, is_recipe, size_of

PUT = ("put", 1)
SAY = ("say", PUT)
FAIL = ("fail", "sour")
NAME = ("put", "a")


def whens(depth, leaf=FAIL):
    """A recipe so deep where the leaf is one deep; its other ways are short."""
    found = leaf
    for _ in range(depth - 1):
        found = ("when", PUT, FAIL, found)
    return found


class Told(unittest.TestCase):
    def yes(self, *given):
        for at, thing in enumerate(given):
            with self.subTest(at=at):
                self.assertIs(is_recipe(thing), True)

    def no(self, *given):
        for at, thing in enumerate(given):
            with self.subTest(at=at):
                self.assertIs(is_recipe(thing), False)


class Words(Told):
    def test_say(self):
        self.yes(SAY, ("say", ("put", ())), ("say", ("row", ())), ("say", ("sum", PUT, PUT)), ("say", ("put", "sour")))
        self.no(("say",), ("say", PUT, PUT), ("say", PUT, SAY), ("say", 1), ("say", "a"), ("say", ()), ("say", None))
        self.no(("say", ("put", 1.5)), ("say", ("put",)), ("say", ("put", True)), ("say", ("many", 1)), ("say", (PUT,)))

    def test_fail(self):
        self.yes(FAIL, ("fail", "a"), ("fail", "zzzzzzzz"), ("fail", "kind"))
        self.no(("fail",), ("fail", "a", "b"), ("fail", "a", SAY), ("fail", ""), ("fail", "abcdefghi"), ("fail", "A"))
        self.no(("fail", "a1"), ("fail", "a b"), ("fail", "a\n"), ("fail", 1), ("fail", None), ("fail", True))
        self.no(("fail", NAME), ("fail", ("a",)), ("fail", ["a"]), ("fail", ()), ("fail", "-"))

    def test_want_and_peek(self):
        for word in ("want", "peek"):
            self.yes((word, NAME, SAY), (word, NAME, FAIL), (word, PUT, SAY), (word, ("row", ()), SAY))
            self.yes((word, NAME, (word, NAME, SAY)), (word, NAME, ("say", ("got", 0))))
            self.no((word,), (word, NAME), (word, NAME, SAY, SAY), (word, SAY), (word, NAME, "a"), (word, "a", SAY))
            self.no((word, NAME, 1), (word, NAME, ()), (word, NAME, None), (word, NAME, (SAY,)), (word, (NAME,), SAY))

    def test_when(self):
        self.yes(("when", PUT, SAY, FAIL), ("when", PUT, SAY, SAY), ("when", PUT, FAIL, ("want", NAME, SAY)))
        self.yes(("when", ("less", PUT, PUT), ("when", PUT, SAY, FAIL), ("when", PUT, FAIL, SAY)))
        self.no(("when",), ("when", PUT), ("when", PUT, SAY), ("when", PUT, SAY, SAY, SAY), ("when", SAY, SAY))
        self.no(("when", 1, SAY, SAY), ("when", PUT, 1, SAY), ("when", PUT, SAY, 1), ("when", PUT, (SAY, SAY)))
        self.no(("when", PUT, SAY, ("fail", "A")), ("when", PUT, ("fail", ""), SAY))

    def test_recipes_in_the_place_of_exprs_and_the_other_way_about(self):
        self.no(PUT, ("got", 0), ("row", ()), ("many", PUT), ("sum", PUT, PUT))
        self.no(("say", SAY), ("say", FAIL), ("say", ("many", SAY)), ("say", ("row", (SAY,))))
        self.no(("say", ("sum", PUT, SAY)))
        self.no(("want", SAY, SAY), ("want", FAIL, SAY), ("want", NAME, PUT), ("peek", NAME, NAME), ("peek", SAY, SAY))
        self.no(("when", SAY, SAY, SAY), ("when", PUT, PUT, SAY), ("when", PUT, SAY, PUT), ("when", FAIL, FAIL, FAIL))
        self.no(("want", SAY, NAME), ("say", ("want", NAME, SAY)), ("when", SAY, PUT, PUT))

    def test_other_words(self):
        for word in "", "Say", "SAY", "say ", "saying", "wants", "fails", "made", "put", "got", "row", "sum", "if", "a":
            self.no((word,), (word, PUT), (word, "a"), (word, NAME, SAY), (word, PUT, SAY, SAY), (word, 1))

    def test_lists_in_the_place_of_tuples(self):
        self.no(["say", PUT], ("say", ["put", 1]), ["fail", "a"], ["want", NAME, SAY], ("want", NAME, ["say", PUT]))
        self.no(("want", ["put", "a"], SAY), ("when", PUT, SAY, ["fail", "a"]), ("when", PUT, ["say", PUT], SAY), [])
        self.no(["when", PUT, SAY, SAY], ("say", ("row", [PUT])), ("say", ("row", (["put", 1],))))
        self.no(("say", ("put", [1])))

    def test_other_kinds(self):
        self.no(0, 1, "", "say", "say put 1", (), ((),), (SAY,), (1, 2), (None, PUT), (("say",), PUT), {"say": PUT})
        for thing in things.odd_things():
            self.no(thing, (thing,), (thing, PUT), (thing, NAME, SAY), (thing, PUT, SAY, SAY), ("say", thing))
            self.no(("fail", thing), ("want", thing, SAY), ("want", NAME, thing), ("peek", thing, SAY))
            self.no(("peek", NAME, thing), ("when", thing, SAY, SAY), ("when", PUT, thing, SAY))
            self.no(("when", PUT, SAY, thing), ("say", ("put", thing)), ("want", NAME, ("say", ("got", thing))))


class Got(Told):
    def test_none_at_first(self):
        self.no(("say", ("got", 0)), ("want", ("got", 0), SAY), ("peek", ("got", 0), SAY))
        self.no(("when", ("got", 0), SAY, SAY))
        self.no(("say", ("sum", PUT, ("got", 0))), ("when", PUT, SAY, ("say", ("got", 0))))

    def test_one_more_behind_a_want_or_a_peek(self):
        for many in range(13):
            for words in (["want"] * many, ["peek"] * many, (["want", "peek"] * 6)[:many]):
                for number in range(-1, 14):
                    thing = things.asking(words, ("say", ("got", number)))
                    self.assertIs(is_recipe(thing), 0 <= number < many)

    def test_not_yet_in_the_want_itself(self):
        self.no(("want", NAME, ("want", ("got", 1), SAY)), ("peek", NAME, ("peek", ("got", 1), SAY)))
        self.yes(("want", NAME, ("want", ("got", 0), SAY)), ("want", NAME, ("peek", ("got", 0), ("say", ("got", 1)))))

    def test_both_of_a_when_have_as_many_as_it_has(self):
        for number, right in ((0, True), (1, False)):
            say = ("say", ("got", number))
            for thing in (("when", ("got", number), SAY, SAY), ("when", PUT, say, SAY), ("when", PUT, SAY, say)):
                self.assertIs(is_recipe(("want", NAME, thing)), right)
                self.assertIs(is_recipe(("peek", NAME, thing)), right)

    def test_what_one_way_gets_the_other_has_not(self):
        self.no(("when", PUT, ("want", NAME, SAY), ("say", ("got", 0))))
        self.no(("when", PUT, ("say", ("got", 0)), ("want", NAME, SAY)))
        self.yes(("when", PUT, ("want", NAME, ("say", ("got", 0))), ("peek", NAME, ("say", ("got", 0)))))

    def test_truths_are_no_numbers(self):
        self.no(("want", NAME, ("want", NAME, ("say", ("got", True)))), ("want", NAME, ("say", ("got", False))))


class Bounds(Told):
    def test_none_to_twelve_wants_and_peeks_on_a_way(self):
        for many in range(13):
            for words in (["want"] * many, ["peek"] * many, (["want", "peek"] * 6)[:many]):
                self.yes(things.asking(words, SAY), things.asking(words, FAIL))
        for words in (["want"] * 13, ["peek"] * 13, ["want", "peek"] * 6 + ["want"], ["peek"] + ["want"] * 12):
            self.no(things.asking(words, SAY), things.asking(words, FAIL), things.asking(words + ["want"], FAIL))

    def test_whens_between_wants(self):
        for many, right in ((12, True), (13, False)):
            thing = things.asking(["want"] * 5, ("when", PUT, FAIL, things.asking(["peek"] * (many - 5), FAIL)))
            self.assertIs(is_recipe(thing), right)

    def test_each_way_for_itself(self):
        twelve, thirteen = things.asking(["want"] * 12, FAIL), things.asking(["want"] * 13, FAIL)
        self.yes(("when", PUT, twelve, twelve))
        self.no(("when", PUT, twelve, thirteen), ("when", PUT, thirteen, twelve))

    def test_sixty_and_sixty_one(self):
        for many in range(52, 60):
            self.yes(("say", things.expr_of(many - 1)))
        sixty = [
            ("say", things.expr_of(59)), ("want", things.expr_of(58), FAIL),
            ("peek", things.expr_of(30), ("say", things.expr_of(28))),
            ("when", things.expr_of(20), ("say", things.expr_of(18)), ("want", NAME, ("say", things.expr_of(17)))),
            ("when", PUT, ("say", things.expr_of(56)), FAIL), ("when", PUT, FAIL, ("say", things.expr_of(56))),
        ]
        for thing in sixty:
            self.assertEqual(things.measured(thing)[0], 60)
            self.yes(thing)
            self.no(("want", NAME, thing), ("when", PUT, thing, FAIL), ("when", PUT, FAIL, thing))
        more = [
            ("say", things.expr_of(60)), ("want", things.expr_of(59), FAIL),
            ("peek", things.expr_of(30), ("say", things.expr_of(29))),
            ("when", things.expr_of(20), ("say", things.expr_of(19)), ("want", NAME, ("say", things.expr_of(17)))),
            ("when", PUT, ("say", things.expr_of(57)), FAIL), ("when", PUT, FAIL, ("say", things.expr_of(57))),
        ]
        for thing in more:
            self.assertEqual(things.measured(thing)[0], 61)
            self.no(thing)

    def test_what_is_put_counts_nothing_of_its_own(self):
        self.yes(("say", ("put", things.FORTY)), whens(19, ("say", ("put", things.nested(0, 4)))))
        self.no(("say", ("put", things.FORTY + (0,))), ("say", ("put", things.nested(0, 5))))

    def test_twenty_and_twenty_one_deep(self):
        for deep, right in ((19, True), (20, True), (21, False), (22, False), (60, False)):
            given = [
                ("say", things.chain(deep - 1)), ("want", things.chain(deep - 1, NAME), FAIL),
                ("want", NAME, ("say", things.chain(deep - 2))), ("when", things.chain(deep - 1), FAIL, FAIL),
                ("when", PUT, ("say", things.chain(deep - 2)), FAIL),
                ("when", PUT, FAIL, ("say", things.chain(deep - 2))),
                things.asking(["want"] * 12, ("say", things.chain(deep - 13))),
                ("say", ("row", (PUT, things.chain(deep - 2)))),
            ]
            for thing in given:
                self.assertEqual(things.measured(thing)[1], deep)
                self.assertIs(is_recipe(thing), right)
        self.assertEqual(things.measured(whens(20))[:2], (58, 20))
        self.yes(whens(20))
        self.assertEqual(things.measured(whens(19, ("when", PUT, FAIL, SAY)))[1], 21)
        self.no(whens(19, ("when", PUT, FAIL, SAY)), whens(21))

    def test_things_without_measure(self):
        thing = SAY
        for _ in range(18):
            thing = ("when", PUT, thing, thing)
        self.no(thing)
        for _ in range(60):
            thing = ("when", PUT, thing, thing)
        self.no(thing, ("say", things.chain(10000)), whens(10000), things.asking(["want"] * 10000, SAY))
        self.no(("say", ("put", things.nested(0, 10000))), ("say", ("row", (things.shared(PUT, 60),))))
        self.no(things.nested(SAY, 10000))


class Sizes(unittest.TestCase):
    def test_size_of(self):
        for thing, size in (
            (FAIL, (1, 1, 0)), (SAY, (2, 2, 0)), (("say", ("row", ())), (2, 2, 0)),
            (("say", ("row", (PUT, PUT))), (4, 3, 0)),
            (("say", ("put", (1, (2, 3)))), (2, 2, 0)), (("say", ("sum", PUT, ("many", PUT))), (5, 4, 0)),
            (("want", NAME, FAIL), (3, 2, 1)), (("peek", NAME, FAIL), (3, 2, 1)), (("want", NAME, SAY), (4, 3, 1)),
            (("want", ("many", NAME), FAIL), (4, 3, 1)), (("want", NAME, ("peek", NAME, FAIL)), (5, 3, 2)),
            (("when", PUT, FAIL, FAIL), (4, 2, 0)), (("when", PUT, SAY, FAIL), (5, 3, 0)),
            (("when", PUT, ("want", NAME, FAIL), ("peek", NAME, ("want", NAME, FAIL))), (10, 4, 2)),
            (("when", PUT, ("want", NAME, ("want", NAME, ("peek", NAME, FAIL))), FAIL), (10, 5, 3)),
            (("want", NAME, ("when", ("got", 0), FAIL, ("want", NAME, SAY))), (9, 5, 2)),
        ):
            with self.subTest(thing=thing):
                self.assertEqual(size_of(thing), size)

    def test_kinds(self):
        for thing in (FAIL, SAY, ("want", NAME, ("when", ("got", 0), SAY, FAIL))):
            size = size_of(thing)
            self.assertIs(type(size), tuple)
            self.assertEqual([type(part) for part in size], [int, int, int])

    def test_at_the_bounds_and_somewhat_beyond(self):
        self.assertEqual(size_of(("say", things.expr_of(59)))[0], 60)
        self.assertEqual(size_of(("say", things.expr_of(79)))[0], 80)
        self.assertEqual(size_of(("say", things.chain(19))), (20, 20, 0))
        self.assertEqual(size_of(("say", things.chain(39))), (40, 40, 0))
        self.assertEqual(size_of(things.asking(["want", "peek"] * 6, FAIL)), (25, 13, 12))
        self.assertEqual(size_of(things.asking(["want", "peek"] * 9, FAIL)), (37, 19, 18))


class Honest(unittest.TestCase):
    def test_without_a_peek(self):
        for thing in (
            SAY, FAIL, ("fail", "peek"), ("say", ("put", "peek")), ("want", ("put", "peek"), SAY),
            ("when", PUT, SAY, FAIL),
            things.asking(["want"] * 12, FAIL), ("when", ("put", "peek"), ("want", NAME, SAY), ("want", NAME, FAIL)),
        ):
            self.assertIs(is_honest(thing), True)

    def test_with_a_peek(self):
        peek = ("peek", NAME, SAY)
        for thing in (
            peek, ("want", NAME, peek), ("peek", NAME, ("want", NAME, SAY)), ("when", PUT, peek, SAY),
            ("when", PUT, SAY, peek), ("want", NAME, ("when", PUT, SAY, ("when", PUT, ("want", NAME, peek), FAIL))),
            things.asking(["want"] * 11 + ["peek"], FAIL), things.asking(["peek"] * 12, FAIL),
        ):
            self.assertIs(is_honest(thing), False)

    def test_as_the_words_say(self):
        source = things.source(14)
        seen = {True: 0, False: 0}
        for _ in range(500):
            thing = things.right_recipe(source, 7)
            honest = "'peek', (" not in repr(thing)
            seen[honest] += 1
            self.assertIs(is_honest(thing), honest)
        self.assertGreater(min(seen.values()), 50)


class Any(unittest.TestCase):
    def test_by_measure(self):
        source = things.source(15)
        seen = {True: 0, False: 0}
        for _ in range(4000):
            words = source.choice([WORDS, WORDS, ("want", "want", "peek", "say")])
            thing = things.recipe(source, source.randint(2, 24), 0, words)
            size = things.measured(thing)
            fits = size[0] <= 60 and size[1] <= 20 and size[2] <= 12
            seen[fits] += 1
            self.assertIs(is_recipe(thing), fits)
            self.assertEqual(size_of(thing), size)
        self.assertGreater(min(seen.values()), 50)

    def test_one_part_changed(self):
        """A part of a right recipe gives way to another thing: told as a plain reading of the point tells."""
        source = things.source(16)
        seen = {True: 0, False: 0}
        for _ in range(6000):
            thing = changed(source, things.right_recipe(source, 6), 6)
            # A leaf may give way to what is greater, so a recipe of just sixty may become one of more.
            right = plainly(thing, 0) and things.measured(thing)[0] <= 60
            seen[right] += 1
            self.assertIs(is_recipe(thing), right)
        self.assertGreater(min(seen.values()), 500)

    def test_nothing_is_changed(self):
        for thing in (
            ["say", PUT], ("say", ("put", [1, [2]])), ("want", NAME, {"say": [1]}), ("when", PUT, ["say"], SAY),
            ("say", ("row", [PUT])), {"say": [1, {}]}, ("want", NAME, ("peek", NAME, ("say", ("got", 1)))),
        ):
            kept = copy.deepcopy(thing)
            is_recipe(thing)
            self.assertEqual(repr(thing), repr(kept))
        right = ("want", NAME, ("peek", NAME, ("when", PUT, FAIL, ("say", ("got", 1)))))
        kept = copy.deepcopy(right)
        size_of(right)
        is_honest(right)
        self.assertEqual(repr(right), repr(kept))


WORDS = ("say", "fail", "want", "peek", "when")


def changed(source, thing, steps):
    if not isinstance(thing, tuple) or len(thing) == 0 or steps == 0 or source.random() < 0.2:
        others = [
            0, 1, -1, "a", "A", "", "say", "fail", "want", "put", (), None, True, PUT, ("got", 0), ("got", 3), SAY,
            FAIL,
            ("say", ("got", 1)), ("row", ()), list(thing) if isinstance(thing, tuple) else [thing], (thing,),
            thing + (1,) if isinstance(thing, tuple) else 7, thing[:-1] if isinstance(thing, tuple) else 8, {}, [],
        ]
        return source.choice(others)
    at = source.randrange(len(thing))
    return thing[:at] + (changed(source, thing[at], steps - 1),) + thing[at + 1:]


def plainly(thing, got):
    """Whether a thing, here never too deep, is a recipe, perhaps of too many, where so many values are got."""
    try:
        word = recipe_word(thing)
        if word == "fail":
            return len(thing) == 2 and plain_name(thing[1])
        if not plain_expr(thing[1], got):
            return False
        if word == "say":
            return len(thing) == 2
        if word == "when":
            return len(thing) == 4 and plainly(thing[2], got) and plainly(thing[3], got)
        return len(thing) == 3 and plainly(thing[2], got + 1)
    except (IndexError, LookupError):
        return False


def recipe_word(thing):
    if type(thing) is not tuple or thing[0] not in WORDS:
        raise LookupError
    return thing[0]


def plain_name(thing):
    return type(thing) is str and thing.isalpha() and thing.islower() and thing.isascii() and len(thing) < 9


def plain_expr(thing, got):
    if type(thing) is not tuple or len(thing) < 2:
        return False
    if thing[0] == "put":
        return len(thing) == 2 and plain_value(thing[1])
    if thing[0] == "got":
        return len(thing) == 2 and type(thing[1]) is int and thing[1] in range(got)
    if thing[0] == "row":
        if len(thing) != 2 or type(thing[1]) is not tuple or len(thing[1]) > 8:
            return False
        return all(plain_expr(part, got) for part in thing[1])
    words = {"many": 1, "part": 2, "sum": 2, "join": 2, "same": 2, "less": 2}
    many = words.get(thing[0]) if type(thing[0]) is str else None
    return many == len(thing) - 1 and all(plain_expr(part, got) for part in thing[1:])


def plain_value(thing, rows=4):
    """Of the things that stand here: whole numbers and texts within their bounds, if they are such."""
    if type(thing) is tuple:
        fits = rows > 0 and len(thing) < 9 and plain_many(thing) <= 40
        return fits and all(plain_value(part, rows - 1) for part in thing)
    if type(thing) is str:
        return all(sign.islower() or sign.isdigit() or sign == "-" for sign in thing)
    return type(thing) is int


def plain_many(thing):
    return 1 + sum(plain_many(part) for part in thing) if type(thing) is tuple else 1


if __name__ == "__main__":
    unittest.main()
