"""Points 35 and 36: what a line is, and whether it is right by a recipe."""

import copy
import unittest

import plain
import things
from redo.lines import is_line, is_right
from redo.recipetexts import read_recipe
from redo.stamps import stamp_of

ENDS = (("made", "1"), ("fails", "sour"), ("wants", "b"))
STAMPS = ("0", "-7", "1000000000000000000", "'", "'a-9", "'" + "x" * 20, "()", "(1,(),'a)", "((((0))))",
          stamp_of(things.FORTY))
NO_STAMPS = (
    "", " ", "a", "01", "-0", "+1", "1 ", " 1", "1000000000000000001", "'" + "x" * 21, "'A", "(", ")", "(1", "(1,)",
    "(,1)", "()()", "1,2", "(0,0,0,0,0,0,0,0,0)", "(((((0)))))", "made", "'a b", "'\n", "(" * 70000, "1" * 70000,
    stamp_of(things.FORTY)[:-1] + ",0)",
)
NAMES = ("a", "z", "made", "abcdefgh")
NO_NAMES = ("", "A", "a1", "-", "a b", "abcdefghi", "'a", "a\n", " a", "7", "\u00e4", "\u0430")


class Told(unittest.TestCase):
    def yes(self, *given):
        for thing in given:
            with self.subTest(thing=repr(thing)[:200]):
                self.assertIs(is_line(thing), True)

    def no(self, *given):
        for at, thing in enumerate(given):
            with self.subTest(at=at):
                self.assertIs(is_line(thing), False)

    def test_lines(self):
        for name in NAMES:
            for end in ENDS:
                self.yes((name, (), end), (name, ((name, "1"),), end), (name, (("b", "1"), ("b", "2")), end))

    def test_none_to_twelve_reads(self):
        for end in ENDS:
            for many in range(13):
                self.yes(("a", (("b", "1"),) * many, end),
                         ("a", tuple([(name, "'") for name in things.names(many)]), end))
            for many in (13, 14, 100):
                self.no(("a", (("b", "1"),) * many, end))

    def test_stamps(self):
        for stamp in STAMPS:
            self.yes(("a", (("b", stamp),), ENDS[1]), ("a", (), ("made", stamp)))
        for stamp in NO_STAMPS:
            self.no(("a", (("b", stamp),), ENDS[1]), ("a", (), ("made", stamp)),
                    ("a", (("b", "1"), ("c", stamp)), ENDS[0]))

    def test_names(self):
        for name in NAMES:
            self.yes((name, (), ENDS[0]), ("a", ((name, "1"),), ENDS[0]), ("a", (), ("fails", name)),
                     ("a", (), ("wants", name)))
        for name in NO_NAMES:
            self.no((name, (), ENDS[0]), ("a", ((name, "1"),), ENDS[0]), ("a", (), ("fails", name)),
                    ("a", (), ("wants", name)))
            self.no(("a", (("b", "1"), (name, "1")), ENDS[1]))

    def test_the_words_of_an_end(self):
        for word in ("", "Made", "make", "fail", "want", "lacks", "ring", "kept", "strays", "peeks", "peek", "say",
                     "made "):
            self.no(("a", (), (word, "1")), ("a", (), (word, "a")), ("a", (), (word, "()")))
        self.no(("a", (), ("fails", "1")), ("a", (), ("wants", "1")), ("a", (), ("made", "a")),
                ("a", (), ("wants", "'a")))
        self.no(("a", (), ("fails", "()")), ("a", (), ("fails", "'sour")))

    def test_lists_in_a_tuple_s_place(self):
        self.no(["a", (), ENDS[0]], ["a", [], ["made", "1"]], ("a", [], ENDS[0]), ("a", (["b", "1"],), ENDS[0]))
        self.no(("a", [("b", "1")], ENDS[0]), ("a", (), ["made", "1"]), ("a", (("b", "1"), ["b", "1"]), ENDS[0]))

    def test_a_thing_more_or_fewer(self):
        self.no((), ("a",), ("a", ()), ("a", (), ENDS[0], ()), ("a", (), ENDS[0], ENDS[0]), ((), ENDS[0]))
        self.no(("a", ((),), ENDS[0]), ("a", (("b",),), ENDS[0]), ("a", (("b", "1", "2"),), ENDS[0]))
        self.no(("a", (), ()), ("a", (), ("made",)), ("a", (), ("made", "1", "2")), ("a", (), ("fails", "x", "x")))
        self.no(("a", (), ("lacks",)), ("a", (), ("wants",)), ("a", ("b", "1"), ENDS[0]), ("a", "", ENDS[0]))
        self.no(("a", "ab", ENDS[0]), ("a", ("ab", "cd"), ENDS[0]), ("a", (), "made"), ("a", (), "ab"), "abc")

    def test_other_kinds(self):
        for thing in things.odd_things() + [0, 1, -5, (), ("a",), ("made", 1)]:
            self.no(thing, (thing,), (thing, (), ENDS[0]), ("a", (thing,), ENDS[0]), ("a", (thing, thing), ENDS[1]))
            self.no(("a", (("b", thing),), ENDS[0]), ("a", ((thing, "1"),), ENDS[0]), ("a", (), ("made", thing)))
            self.no(("a", (), (thing, "1")), ("a", (), (thing, "a")), ("a", (), (thing, thing)), ("a", thing, thing))
            self.no(("a", (), ("fails", thing)), ("a", (), ("wants", thing)), ("a", (), (thing,)))
            if not isinstance(thing, tuple) or len(thing) > 0:
                self.no(("a", thing, ENDS[0]))
            self.no(("a", (), thing))

    def test_values_are_no_stamps(self):
        self.no(("a", (("b", 1),), ENDS[0]), ("a", (("b", ()),), ENDS[0]), ("a", (), ("made", 1)),
                ("a", (), ("made", ())))

    def test_great_and_deep_things(self):
        deep = things.nested("a", 60)
        self.no(deep, ("a", deep, ENDS[0]), ("a", (deep,), ENDS[0]), ("a", (), deep), (deep, (), ENDS[0]),
                things.shared("a", 30))
        self.no(("a", things.shared(("b", "1"), 20), ENDS[0]), ("a", (), ("made", things.shared("1", 20))))

    def test_nothing_is_changed(self):
        for thing in (["a", [["b", "1"]], ["made", "1"]], ("a", (["b"],), {"made": [1]}),
                      ("a", (("b", "1"),), ENDS[0]), {}):
            kept = copy.deepcopy(thing)
            is_line(thing)
            self.assertEqual(repr(thing), repr(kept))


class Right(unittest.TestCase):
    def setUp(self):
        self.two = "want put 'b want put 'c say row 2 got 0 got 1"

    def yes(self, text, *lines):
        self.told(text, lines, True)

    def no(self, text, *lines):
        self.told(text, lines, False)

    def told(self, text, lines, wanted):
        recipe = read_recipe(text)
        for line in lines:
            with self.subTest(text=text, line=line):
                self.assertIs(is_line(line), True)
                self.assertIs(is_right(recipe, line), wanted)

    def test_without_reads(self):
        self.yes("say put 5", ("a", (), ("made", "5")), ("b", (), ("made", "5")))
        self.no("say put 5", ("a", (), ("made", "6")), ("a", (), ("made", "'5")), ("a", (), ("made", "(5)")))
        self.no("say put 5", ("a", (), ("fails", "kind")), ("a", (), ("wants", "b")),
                ("a", (("b", "5"),), ("made", "5")))
        self.yes("fail sour", ("a", (), ("fails", "sour")))
        self.no("fail sour", ("a", (), ("fails", "sou")), ("a", (), ("wants", "sour")), ("a", (), ("made", "'sour")))
        self.yes("say many put 1", ("a", (), ("fails", "kind")))
        self.yes("want put 1 say put 1", ("a", (), ("fails", "name")))
        self.no("want put 1 say put 1", ("a", (), ("made", "1")), ("a", (), ("wants", "name")))

    def test_just_the_reads_that_are_wanted(self):
        self.yes(self.two, ("a", (("b", "1"), ("c", "'x")), ("made", "(1,'x)")))
        self.yes(self.two, ("b", (("b", "1"), ("c", "'x")), ("made", "(1,'x)")))
        self.yes(self.two, ("a", (("b", "()"), ("c", "2")), ("made", "((),2)")))

    def test_fewer(self):
        self.no(self.two, ("a", (("b", "1"),), ("made", "(1,1)")), ("a", (), ("made", "(1,1)")),
                ("a", (), ("fails", "x")))
        self.yes(self.two, ("a", (("b", "1"),), ("wants", "c")), ("a", (), ("wants", "b")))
        self.no(self.two, ("a", (("b", "1"),), ("wants", "b")), ("a", (), ("wants", "c")), ("a", (), ("wants", "a")))

    def test_more(self):
        self.no(self.two, ("a", (("b", "1"), ("c", "2"), ("c", "2")), ("made", "(1,2)")))
        self.no(self.two, ("a", (("b", "1"), ("b", "1"), ("c", "2")), ("made", "(1,2)")))
        self.no(self.two, ("a", (("b", "1"), ("c", "2"), ("d", "2")), ("wants", "d")))
        self.no("fail x", ("a", (("b", "1"),), ("fails", "x")))

    def test_of_another_name_or_order(self):
        self.no(self.two, ("a", (("b", "1"), ("d", "2")), ("made", "(1,2)")),
                ("a", (("a", "1"), ("c", "2")), ("made", "(1,2)")))
        self.no(self.two, ("a", (("c", "2"), ("b", "1")), ("made", "(1,2)")), ("a", (("d", "1"),), ("wants", "c")))

    def test_another_stamp(self):
        self.no(self.two, ("a", (("b", "1"), ("c", "2")), ("made", "(1,3)")),
                ("a", (("b", "3"), ("c", "2")), ("made", "(1,2)")))
        self.no(self.two, ("a", (("b", "1"), ("c", "'2")), ("made", "(1,2)")),
                ("a", (("b", "1"), ("c", "2")), ("made", "(1,'2)")))

    def test_another_end(self):
        reads = (("b", "1"), ("c", "2"))
        self.no(self.two, ("a", reads, ("fails", "kind")), ("a", reads, ("wants", "d")), ("a", reads, ("wants", "c")))
        failing = "want put 'b say part got 0 put 0"
        self.yes(failing, ("a", (("b", "()"),), ("fails", "part")), ("a", (("b", "1"),), ("fails", "kind")))
        self.yes(failing, ("a", (("b", "(7)"),), ("made", "7")))
        self.no(failing, ("a", (("b", "()"),), ("fails", "kind")), ("a", (("b", "(7)"),), ("fails", "part")))

    def test_the_ways_go_by_what_is_read(self):
        text = "want put 'b when got 0 want got 0 say got 1 fail none"
        self.yes(text, ("a", (("b", "0"),), ("fails", "none")), ("a", (("b", "'c"), ("c", "3")), ("made", "3")))
        self.yes(text, ("a", (("b", "'c"),), ("wants", "c")), ("a", (("b", "1"),), ("fails", "name")))
        self.yes(text, ("a", (("b", "'b"), ("b", "7")), ("made", "7")))
        self.no(text, ("a", (("b", "'c"), ("d", "3")), ("made", "3")), ("a", (("b", "'c"),), ("fails", "none")))

    def test_twelve(self):
        text = "want put 'b " * 12 + "say got 11"
        reads = tuple([("b", str(k)) for k in range(12)])
        self.yes(text, ("a", reads, ("made", "11")), ("a", reads[:11], ("wants", "b")))
        self.no(text, ("a", reads, ("made", "0")), ("a", reads[:11], ("made", "10")), ("a", reads, ("wants", "b")))

    def test_a_recipe_that_meets_a_peek(self):
        for end in (("made", "1"), ("wants", "b"), ("fails", "x"), ("wants", "c")):
            self.no("peek put 'b say put 1", ("a", (), end), ("a", (("b", "1"),), end))
            self.no("want put 'c peek put 'b say put 1", ("a", (("c", "1"),), end),
                    ("a", (("c", "1"), ("b", "1")), end))
        self.yes("want put 'c peek put 'b say put 1", ("a", (), ("wants", "c")))
        self.yes("want put 'c when got 0 peek put 'b say got 1 say put 5", ("a", (("c", "0"),), ("made", "5")))
        self.no("want put 'c when got 0 peek put 'b say got 1 say put 5", ("a", (("c", "1"),), ("made", "5")))
        self.yes("peek put 7 say put 1", ("a", (), ("fails", "name")))
        self.yes("peek many put 7 say put 1", ("a", (), ("fails", "kind")))


class Any(unittest.TestCase):
    def test_as_told_in_another_way(self):
        source = things.source(36)
        seen = {}
        for _ in range(4000):
            recipe = things.right_lively(source, source.randint(0, 5), things.PEEKING, things.NAMES[:3])
            line = ("a", things.reads(source), source.choice(ENDS + (("made", "0"), ("fails", "x"), ("wants", "a"))))
            for given in (line, things.nearly(source, recipe, line)):
                self.assertIs(is_line(given), True)
                kept = copy.deepcopy((recipe, given))
                right = plain.right(recipe, given)
                self.assertIs(is_right(recipe, given), right)
                self.assertEqual(repr((recipe, given)), repr(kept))
                seen[(right, given[2][0])] = seen.get((right, given[2][0]), 0) + 1
        self.assertEqual(len(seen), 6)
        self.assertGreater(min(seen.values()), 100, seen)


if __name__ == "__main__":
    unittest.main()
