"""Points 3 and 10: names, values, how deep and how many they are."""

import copy
import unittest

from redo.values import deep_of, is_name, is_value, many_of
import things


class Names(unittest.TestCase):
    def yes(self, *given):
        for at, thing in enumerate(given):
            with self.subTest(at=at):
                self.assertIs(is_name(thing), True)

    def no(self, *given):
        for at, thing in enumerate(given):
            with self.subTest(at=at):
                self.assertIs(is_name(thing), False)

    def test_names(self):
        self.yes("a", "z", "bread", "abcdefgh", "zzzzzzzz", "stuvwxyz", "ijklmnop")

    def test_lengths(self):
        self.no("", "abcdefghi", "a" * 9, "a" * 100000)

    def test_other_signs(self):
        self.no("A", "aB", "a1", "1", "-", "a-b", "a b", " a", "a ", "a\n", "\n", "'a", "a_b", "(a)", "`", "{")
        self.no("\u00e4", "\u00df", "\u0430", "\u0131", "\uff41", "a\u0301", "\ud800", "a\x00", "\u017f")

    def test_other_kinds(self):
        for thing in things.odd_things():
            self.assertIs(is_name(thing), False)
        self.no(0, 1, 12, ("a",), ("a", "b"), ["a"], {"a": "a"})


class Values(unittest.TestCase):
    def yes(self, *given):
        for at, thing in enumerate(given):
            with self.subTest(at=at):
                self.assertIs(is_value(thing), True)

    def no(self, *given):
        for at, thing in enumerate(given):
            with self.subTest(at=at):
                self.assertIs(is_value(thing), False)

    def test_whole_numbers(self):
        self.yes(0, 1, -1, 7, 10 ** 18 - 1, 10 ** 18, -10 ** 18 + 1, -10 ** 18)
        self.no(10 ** 18 + 1, -10 ** 18 - 1, 10 ** 19, 10 ** 5000, -10 ** 5000)

    def test_truths_are_none(self):
        self.no(True, False, (True,), (False,), (1, True), ((0, (False,)),))
        self.yes(1, 0, (1,), (0,))

    def test_texts(self):
        self.yes("", "a", "z", "0", "9", "-", "abc", "a-1", "--", "0123456789", "klmnopqrstuvwxyz", "ghij-")

    def test_lengths_of_texts(self):
        self.yes("a" * 20, "-" * 20, "7" * 20)
        self.no("a" * 21, "-" * 21, "a" * 100000)

    def test_other_signs(self):
        self.no("A", " ", "a b", "a\n", "'", "'a", "(", ")", ",", "+", "_", "a.b", "/", ":", "@", "`", "{", "%")
        self.no("\u00e4", "\u0663", "\u00b2", "\u2212", "\uff11", "\ud800", "\x00", ("a", "B"))

    def test_rows(self):
        self.yes((), (1,), ("",), ("a", 1), ((),), (1, ("a", (2, "b"))), ((), (), ()))

    def test_breadth(self):
        self.yes((0,) * 8, ((0,) * 8,), ("a", (1,) * 8))
        self.no((0,) * 9, ((0,) * 9,), ("a", (1,) * 9), (0,) * 100000)

    def test_depth(self):
        self.yes(things.nested(0, 4), things.nested("", 4), things.nested((), 3), (1, 2, things.nested(3, 3)))
        self.no(things.nested(0, 5), things.nested((), 4), (1, 2, things.nested(3, 4)))

    def test_many(self):
        forty = ((0,) * 8, (0,) * 8, (0,) * 8, (0,) * 7, 0, 0, 0)
        self.assertEqual(many_of(forty), 39)
        self.yes(forty, forty + (0,))
        self.assertEqual(many_of(forty + (0,)), 40)
        more = ((0,) * 8, (0,) * 8, (0,) * 8, (0,) * 8, 0, 0, 0, 0)
        self.assertEqual(many_of(more), 41)
        self.no(more)

    def test_rows_without_parts_count(self):
        forty = (((),) * 8,) * 4 + ((), (), ())
        self.assertEqual(many_of(forty), 40)
        self.yes(forty)
        self.no(forty + ((),))

    def test_lists_in_the_place_of_tuples(self):
        self.no([], [1], ([],), ([1],), (1, [2]), (((([],),),),), [()])

    def test_other_kinds(self):
        for thing in things.odd_things():
            self.assertIs(is_value(thing), False)
            self.assertIs(is_value((thing,)), False)
            self.assertIs(is_value((1, ("a", (thing,)))), False)

    def test_things_without_measure(self):
        self.no(things.nested(0, 60), things.shared(0, 60), things.shared((), 3), things.shared(0, 2))
        self.no([things.nested(0, 60)], things.nested(0, 10000))

    def test_nothing_is_changed(self):
        for thing in ((1, [2, "a"], {"a": (3,)}), [[], ()], {"a": [1]}, ("a", (1, ("b",)))):
            kept = copy.deepcopy(thing)
            is_value(thing)
            is_name(thing)
            self.assertEqual(thing, kept)
            self.assertEqual(repr(thing), repr(kept))


class Measures(unittest.TestCase):
    def test_deep_of(self):
        for value, deep in (
            (0, 0), (-7, 0), ("", 0), ("abc", 0), ((), 1), ((1,), 1), ((1, "a", 2), 1), (((),), 2),
            ((1, ()), 2), (((), 1), 2), ((1, (2, (3, (4,)))), 4), ((((1,),), (1,), 1), 3), ((((((),),),)), 4),
            ((1, (), ((),), ()), 3), ((0,) * 8, 1),
        ):
            with self.subTest(value=value):
                self.assertEqual(deep_of(value), deep)

    def test_many_of(self):
        for value, many in (
            (0, 1), (10 ** 18, 1), ("", 1), ("abcdefgh", 1), ((), 1), ((1,), 2), ((1, "a", 2), 4), (((),), 2),
            ((1, (2, (3, (4,)))), 8), (((1, 2), (3,), ()), 7), ((0,) * 8, 9), (((0,) * 8,) * 4, 37),
        ):
            with self.subTest(value=value):
                self.assertEqual(many_of(value), many)

    def test_kinds(self):
        for value in (0, "", (), ((1,), 2)):
            self.assertIs(type(deep_of(value)), int)
            self.assertIs(type(many_of(value)), int)

    def test_somewhat_beyond_the_bounds(self):
        self.assertEqual(deep_of(things.nested(0, 5)), 5)
        self.assertEqual(deep_of(things.nested((), 59)), 60)
        self.assertEqual(many_of(things.nested(0, 60)), 61)
        self.assertEqual(many_of((0,) * 50), 51)

    def test_is_value_goes_by_them(self):
        source = things.source(10)
        seen = {True: 0, False: 0}
        for _ in range(4000):
            value = things.value(source, 5)
            fits = deep_of(value) <= 4 and many_of(value) <= 40
            seen[fits] += 1
            self.assertIs(is_value(value), fits)
        self.assertGreater(min(seen.values()), 50)


if __name__ == "__main__":
    unittest.main()
