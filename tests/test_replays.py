"""Points 17 and 18: what a recipe comes to by what is read and peeked."""

import copy
import unittest

import things
from redo.recipes import is_recipe
from redo.replays import replay
from redo.telling import told_by

PUT = ("put", 1)
SAY = ("say", PUT)
FAIL = ("fail", "sour")
A = ("put", "a")
B = ("put", "b")
FAILING = ("many", ("put", 7))
GREAT = ("sum", ("put", 10 ** 18), PUT)


def got(number):
    return ("got", number)


class Replays(unittest.TestCase):
    def comes(self, recipe, reads, peeks, wanted):
        with self.subTest(recipe=recipe, reads=reads, peeks=peeks):
            self.assertIs(is_recipe(recipe), True)
            told = replay(recipe, reads, peeks)
            self.assertEqual(told, wanted)
            self.assertEqual(repr(told), repr(wanted))


class Ends(Replays):
    def test_made(self):
        for value in (0, 1, -5, "", "bread", (), (1, ("a",))):
            self.comes(("say", ("put", value)), [], [], ("made", value))
        self.comes(("say", ("sum", PUT, ("put", 2))), [], [], ("made", 3))

    def test_a_say_that_fails(self):
        self.comes(("say", FAILING), [], [], ("fails", "kind"))
        self.comes(("say", GREAT), [], [], ("fails", "great"))
        self.comes(("say", ("part", ("put", ()), ("put", 0))), [], [], ("fails", "part"))

    def test_fail(self):
        self.comes(FAIL, [], [], ("fails", "sour"))
        self.comes(("fail", "kind"), [], [], ("fails", "kind"))

    def test_peeks_that_are_not_used_change_nothing(self):
        for recipe, wanted in ((SAY, ("made", 1)), (FAIL, ("fails", "sour")), (("want", A, SAY), ("wants", "a"))):
            self.comes(recipe, [], [("b", 1)], wanted)
            self.comes(recipe, [], [("a", 1), ("b", ())], wanted)
        self.comes(("peek", A, ("say", got(0))), [], [("a", 5), ("a", 6), ("b", 7)], ("made", 5))

    def test_reads_that_are_not_used_stray(self):
        for recipe in (
            SAY, FAIL, ("say", FAILING), ("when", FAILING, SAY, SAY), ("want", FAILING, SAY), ("want", PUT, SAY),
        ):
            for reads in ([("a", 1)], [("b", 0), ("a", 1)], [("a", 1)] * 13):
                self.comes(recipe, reads, [], ("strays", 0))
                self.comes(recipe, reads, [("a", 1)], ("strays", 0))


class Wants(Replays):
    def test_the_value_read_is_got(self):
        recipe = ("want", A, ("say", got(0)))
        for value in (0, 7, "", "a", (), (1, 2)):
            self.comes(recipe, [("a", value)], [], ("made", value))
        self.comes(recipe, [], [], ("wants", "a"))
        self.comes(recipe, [("b", 1)], [], ("strays", 0))
        self.comes(recipe, [("a", 1), ("a", 1)], [], ("strays", 1))
        self.comes(recipe, [("a", 1), ("b", 1), ("c", 1)], [], ("strays", 1))

    def test_in_order(self):
        recipe = ("want", A, ("want", B, ("say", ("row", (got(0), got(1))))))
        self.comes(recipe, [("a", 1), ("b", 2)], [], ("made", (1, 2)))
        self.comes(recipe, [("a", 1)], [], ("wants", "b"))
        self.comes(recipe, [("b", 2), ("a", 1)], [], ("strays", 0))
        self.comes(recipe, [("a", 1), ("a", 2)], [], ("strays", 1))
        self.comes(recipe, [("a", 1), ("c", 2), ("b", 2)], [], ("strays", 1))
        self.comes(recipe, [("a", 1), ("b", 2), ("b", 3), ("b", 4)], [], ("strays", 2))

    def test_what_is_wanted_again_is_read_again(self):
        recipe = ("want", A, ("want", A, ("say", ("row", (got(0), got(1))))))
        self.comes(recipe, [("a", 1), ("a", 2)], [], ("made", (1, 2)))
        self.comes(recipe, [("a", 1)], [], ("wants", "a"))

    def test_the_name_may_be_got(self):
        recipe = ("want", A, ("want", ("join", got(0), ("put", "y")), ("say", got(1))))
        self.comes(recipe, [("a", "b"), ("by", 3)], [], ("made", 3))
        self.comes(recipe, [("a", "b")], [], ("wants", "by"))
        self.comes(recipe, [("a", "b"), ("b", 3)], [], ("strays", 1))
        self.comes(recipe, [("a", ())], [], ("fails", "kind"))

    def test_an_expr_that_fails(self):
        for word in ("want", "peek"):
            self.comes((word, FAILING, SAY), [], [], ("fails", "kind"))
            self.comes((word, GREAT, SAY), [], [("a", 1)], ("fails", "great"))
        recipe = ("want", A, ("want", ("part", got(0), ("put", 0)), SAY))
        self.comes(recipe, [("a", ())], [], ("fails", "part"))
        self.comes(recipe, [("a", ()), ("b", 1)], [], ("strays", 1))
        self.comes(recipe, [("a", 4)], [], ("fails", "kind"))

    def test_a_value_that_is_no_name(self):
        for value in (0, 1, "", "a1", "-", "abcdefghi", "0", (), ("a",)):
            for word in ("want", "peek"):
                self.comes((word, ("put", value), SAY), [], [], ("fails", "name"))
                self.comes((word, ("put", value), SAY), [("a", 1)], [("a", 1)], ("strays", 0))
                self.comes((word, ("put", value), SAY), [], [("a", 1)], ("fails", "name"))
        self.comes(("want", ("put", "abcdefgh"), SAY), [], [], ("wants", "abcdefgh"))

    def test_twelve(self):
        recipe = things.asking(["want"] * 12, ("say", ("row", (got(0), got(11)))))
        reads = [("a", 100 + k) for k in range(12)]
        self.comes(recipe, reads, [], ("made", (100, 111)))
        for many in range(12):
            self.comes(recipe, reads[:many], [], ("wants", "a"))
            self.comes(recipe, reads[:many] + [("b", 1)] + reads[many:], [], ("strays", many))
        self.comes(recipe, reads + [("a", 1)], [], ("strays", 12))


class Peeks(Replays):
    def test_the_value_peeked_is_got(self):
        recipe = ("peek", A, ("say", got(0)))
        self.comes(recipe, [], [("a", 4)], ("made", 4))
        self.comes(recipe, [], [], ("peeks", "a"))
        self.comes(recipe, [], [("b", 4)], ("peeks", "a"))
        self.comes(recipe, [], [("b", 4), ("a", 4)], ("peeks", "a"))

    def test_it_strays_ahead_of_peeks_and_made(self):
        recipe = ("peek", A, ("say", got(0)))
        self.comes(recipe, [("a", 4)], [], ("strays", 0))
        self.comes(recipe, [("a", 4)], [("b", 4)], ("strays", 0))
        self.comes(recipe, [("a", 4)], [("a", 4)], ("strays", 0))
        self.comes(("want", B, recipe), [("b", 1), ("a", 4)], [], ("strays", 1))
        self.comes(("want", B, recipe), [("b", 1)], [], ("peeks", "a"))
        self.comes(("want", B, recipe), [], [("b", 1)], ("wants", "b"))

    def test_reads_and_peeks_each_in_their_order(self):
        recipe = ("peek", A, ("want", B, ("peek", B, ("want", A, ("say", ("row", tuple([got(k) for k in range(4)])))))))
        reads, peeks = [("b", 20), ("a", 40)], [("a", 10), ("b", 30)]
        self.comes(recipe, reads, peeks, ("made", (10, 20, 30, 40)))
        self.comes(recipe, reads[:1], peeks, ("wants", "a"))
        self.comes(recipe, [], peeks, ("wants", "b"))
        self.comes(recipe, reads[:1], peeks[:1], ("peeks", "b"))
        self.comes(recipe, reads, peeks[:1], ("strays", 1))
        self.comes(recipe, reads, [], ("strays", 0))
        self.comes(recipe, [], [], ("peeks", "a"))
        self.comes(recipe, reads, peeks + peeks, ("made", (10, 20, 30, 40)))
        self.comes(recipe, [("b", 20), ("b", 40)], peeks, ("strays", 1))
        self.comes(recipe, reads, [("a", 10), ("a", 30)], ("strays", 1))


class Whens(Replays):
    def test_which_way(self):
        recipe = ("want", A, ("when", got(0), ("say", ("put", "first")), ("say", ("put", "second"))))
        for value in (0, "", ()):
            self.comes(recipe, [("a", value)], [], ("made", "second"))
        for value in (1, -1, "0", "a", "-", (0,), ((),), ("",), 10 ** 18):
            self.comes(recipe, [("a", value)], [], ("made", "first"))

    def test_where_it_fails(self):
        self.comes(("when", FAILING, SAY, FAIL), [], [], ("fails", "kind"))
        self.comes(("when", GREAT, SAY, FAIL), [], [("a", 1)], ("fails", "great"))
        self.comes(("want", A, ("when", GREAT, SAY, FAIL)), [("a", 1), ("a", 2)], [], ("strays", 1))

    def test_only_the_way_that_is_gone(self):
        recipe = ("when", PUT, ("want", A, ("say", got(0))), ("want", B, FAIL))
        self.comes(recipe, [("a", 1)], [], ("made", 1))
        self.comes(recipe, [("b", 1)], [], ("strays", 0))
        self.comes(recipe, [], [], ("wants", "a"))
        self.comes(("when", ("put", 0), FAIL, recipe), [], [], ("wants", "a"))
        self.comes(("when", PUT, SAY, ("say", FAILING)), [], [], ("made", 1))

    def test_whens_within_whens(self):
        recipe = FAIL
        for depth in range(19):
            ways = (("fail", "other"), recipe) if depth % 2 == 0 else (recipe, ("fail", "other"))
            recipe = ("when", ("put", depth % 2)) + ways
        self.comes(recipe, [], [], ("fails", "sour"))
        four = ("when", got(0), ("when", got(1), ("say", ("put", 11)), ("say", ("put", 10))),
                ("when", got(1), ("say", ("put", 1)), ("say", ("put", 0))))
        for one in (0, 1):
            for other in (0, 1):
                self.comes(("want", A, ("want", B, four)), [("a", one), ("b", other)], [], ("made", 10 * one + other))


class Any(Replays):
    def test_as_told_in_another_way(self):
        source = things.source(19)
        seen = {}
        for _ in range(8000):
            recipe = things.right_recipe(source, source.randint(2, 8))
            reads, peeks = given(source), given(source)
            told = replay(recipe, reads, peeks)
            self.assertEqual(told, plainly(recipe, reads, peeks))
            self.assertIs(type(told), tuple)
            seen[told[0]] = seen.get(told[0], 0) + 1
        self.assertEqual(sorted(seen), ["fails", "made", "peeks", "strays", "wants"])
        self.assertGreater(min(seen.values()), 200)

    def test_more_behind_goes_the_same_way_as_far(self):
        """Read what is wanted, one by one: the reads so far come always to the next want, till an end comes."""
        source = things.source(20)
        for _ in range(1500):
            recipe = things.right_recipe(source, 8, ("say", "fail", "want", "want", "when"))
            reads = []
            told = replay(recipe, reads, [])
            while told[0] == "wants":
                for many in range(len(reads)):
                    self.assertEqual(replay(recipe, reads[:many], []), ("wants", reads[many][0]))
                reads.append((told[1], source.choice([0, 1, "a", "b", (), (2,)])))
                told = replay(recipe, reads, [])
            self.assertIn(told[0], ("made", "fails"))
            for more in ([("a", 0)], [("b", 1), ("a", 0)]):
                self.assertEqual(replay(recipe, reads + more, []), ("strays", len(reads)))
                for many in range(len(reads)):
                    other = reads[:many] + [("other", 1)] + reads[many:]
                    self.assertEqual(replay(recipe, other, []), ("strays", many))

    def test_the_same_comes_again(self):
        source = things.source(21)
        for _ in range(300):
            recipe = things.right_recipe(source, 6)
            reads, peeks = given(source), given(source)
            kept = copy.deepcopy((recipe, reads, peeks))
            told = replay(recipe, reads, peeks)
            self.assertEqual((recipe, reads, peeks), kept)
            self.assertEqual(repr((recipe, reads, peeks)), repr(kept))
            shown = repr(told)
            reads.append(("a", 1))
            peeks.clear()
            self.assertEqual(repr(told), shown)
            self.assertEqual(replay(*kept), told)


def given(source):
    return [
        (source.choice(["a", "a", "b", "c"]), source.choice([0, 1, 7, "", "a", "b", (), (1, "a")]))
        for _ in range(source.choice([0, 0, 1, 1, 2, 3]))
    ]


class Over(Exception):
    pass


def plainly(recipe, reads, peeks):
    """The same in another way: what is left is taken from the front, an end is Python's error."""
    left, spied = list(reads), list(peeks)
    try:
        gone(recipe, [], left, spied)
    except Over as over:
        word = over.args[0][0]
        return ("strays", len(reads) - len(left)) if left and word != "wants" else over.args[0]


def gone(recipe, have, left, spied):
    if recipe[0] == "fail":
        raise Over(("fails", recipe[1]))
    value = worth(recipe[1], have)
    if recipe[0] == "say":
        raise Over(("made", value))
    if recipe[0] == "when":
        gone(recipe[2 if value not in (0, "", ()) else 3], have, left, spied)
    if not (isinstance(value, str) and value.isalpha() and len(value) <= 8):
        raise Over(("fails", "name"))
    if recipe[0] == "peek":
        if not spied or spied[0][0] != value:
            raise Over(("peeks", value))
        gone(recipe[2], have + [spied.pop(0)[1]], left, spied)
    if not left:
        raise Over(("wants", value))
    if left[0][0] != value:
        raise Over(("strays", "here"))
    gone(recipe[2], have + [left.pop(0)[1]], left, spied)


def worth(expr, have):
    told = told_by(expr, have)
    if told[0] == "fails":
        raise Over(told)
    return told[1]


if __name__ == "__main__":
    unittest.main()
