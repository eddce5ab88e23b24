"""Points 92 and 94: which lines are at odds, and what a watch finds."""

import itertools
import unittest

import plain
import things
from redo.making import line_of
from redo.recipes import is_honest
from redo.recipetexts import show_recipe
from redo.untold import Watch, at_odds

line_by = things.line_by


class Odds(unittest.TestCase):
    def odds(self, one, other, wanted):
        """Either way about the same, whatever the names of the lines; what is handed in stays as it was."""
        one, other = line_by(one), line_by(other)
        given = repr((one, other))
        for a, b in itertools.product([one, ("zz",) + one[1:]], [other, ("zz",) + other[1:]]):
            with self.subTest(one=a, other=b):
                self.assertIs(at_odds(a, b), wanted)
                self.assertIs(at_odds(b, a), wanted)
                self.assertIs(plain.at_odds(a, b), wanted)
        self.assertEqual(repr((one, other)), given)


class AtOdds(Odds):
    def test_alike(self):
        for text in ("a : made 1", "a : fails x", "a : wants b", "a b 1 : made 1", "a b 1 c 2 : fails x",
                     "a b 1 : wants c", "a b 1 : wants b", "a" + " b 1" * 12 + " : wants c"):
            self.odds(text, text, False)
            self.odds(text, "q" + text[1:], False)

    def test_made_against_made(self):
        self.odds("a : made 1", "a : made 2", True)
        self.odds("a : made 1", "a : made '1", True)
        self.odds("a : made 1", "a : made (1)", True)
        self.odds("a : made 0", "a : made '", True)
        self.odds("a b 1 : made 1", "a b 1 : made 2", True)
        self.odds("a b 1 : made 2", "a b 1 : made 2", False)

    def test_fails_against_fails(self):
        self.odds("a : fails x", "a : fails y", True)
        self.odds("a b 1 c 2 : fails x", "a b 1 c 2 : fails xx", True)
        self.odds("a b 1 c 2 : fails x", "a b 1 c 2 : fails x", False)

    def test_made_against_fails(self):
        self.odds("a : made 1", "a : fails x", True)
        self.odds("a : made 'x", "a : fails x", True)
        self.odds("a b 1 : made 1", "a b 1 : fails x", True)

    def test_wants_against_wants(self):
        self.odds("a : wants b", "a : wants c", True)
        self.odds("a b 1 : wants b", "a b 1 : wants c", True)
        self.odds("a b 1 : wants c", "a b 1 : wants c", False)

    def test_a_name_against_an_end(self):
        self.odds("a : wants x", "a : fails x", True)
        self.odds("a : wants x", "a : made 'x", True)
        self.odds("a x 1 : made 1", "a : fails x", True)
        self.odds("a x 1 : made 1", "a : made 1", True)
        self.odds("a x 1 : wants y", "a : fails x", True)
        self.odds("a b 1 x 1 : made 1", "a b 1 : fails x", True)
        self.odds("a b 1 x 1 : made 1", "a b 1 : made 1", True)

    def test_unlike_at_the_first_read_in_its_name(self):
        self.odds("a b 1 : made 1", "a c 1 : made 1", True)
        self.odds("a b 1 : made 1", "a c 1 : made 2", True)
        self.odds("a b 1 c 1 : made 1", "a c 1 b 1 : made 1", True)
        self.odds("a b 1 d 1 : made 1", "a c 1 d 1 : made 1", True)

    def test_unlike_at_the_first_read_in_its_stamp_alone(self):
        """What comes behind it is not looked at."""
        for behind in (" : made 1", " : made 2", " : fails x", " : wants c", " c 1 : made 1", " b 1 : made 1"):
            self.odds("a b 1 : made 1", "a b 2" + behind, False)
            self.odds("a b 1 c 5 : made 1", "a b 2" + behind, False)
            self.odds("a b 1 : wants d", "a b '1" + behind, False)
            self.odds("a b 1 : fails y", "a b (1)" + behind, False)

    def test_unlike_at_a_later_read(self):
        self.odds("a b 1 c 1 : made 1", "a b 1 d 1 : made 1", True)
        self.odds("a b 1 c 1 : made 1", "a b 1 d 2 : made 1", True)
        self.odds("a b 1 c 1 : made 1", "a b 1 c 2 : made 2", False)
        self.odds("a b 1 c 1 : made 1", "a b 1 c 2 d 1 : fails x", False)
        self.odds("a b 1 c 1 d 1 : made 1", "a b 1 c 1 e 1 : made 1", True)
        self.odds("a b 1 c 1 d 1 : made 1", "a b 1 c 2 e 1 : made 1", False)
        many = "a" + " b 1" * 11
        self.odds(many + " c 1 : made 1", many + " d 1 : made 1", True)
        self.odds(many + " c 1 : made 1", many + " c 2 : made 2", False)
        self.odds(many + " b 1 : made 1", many + " b 1 : made 2", True)
        self.odds(many + " b 1 : made 1", "a b 2" + " b 1" * 11 + " : made 2", False)

    def test_alike_again_behind_an_unlike_stamp(self):
        """They don't go along together any more."""
        self.odds("a b 1 c 1 : made 1", "a b 2 c 1 : made 2", False)
        self.odds("a b 1 c 1 d 1 : made 1", "a b 2 c 1 e 1 : made 1", False)

    def test_one_with_a_read_more(self):
        self.odds("a b 1 : made 1", "a : made 1", True)
        self.odds("a b 1 c 1 : made 1", "a b 1 : made 1", True)
        self.odds("a b 1 c 1 : fails x", "a b 1 : fails x", True)
        self.odds("a b 1 c 1 : wants d", "a b 1 : wants d", True)

    def test_a_want_at_the_end_that_is_the_other_s_next_read(self):
        for end in ("made 1", "fails x", "wants b", "wants d"):
            self.odds("a : wants b", "a b 1 : " + end, False)
            self.odds("a : wants b", "a b 1 c 1 : " + end, False)
            self.odds("a b 1 : wants c", "a b 1 c 7 : " + end, False)
            self.odds("a b 1 : wants c", "a b 1 c 7 b 1 : " + end, False)
        self.odds("a b 1 : wants b", "a b 1 b 1 : made 1", False)

    def test_a_want_at_the_end_that_is_another(self):
        for end in ("made 1", "fails x", "wants c"):
            self.odds("a : wants c", "a b 1 : " + end, True)
            self.odds("a b 1 : wants d", "a b 1 c 7 : " + end, True)
        self.odds("a b 1 : wants b", "a b 1 c 1 b 1 : made 1", True)

    def test_both_have_reads_of_one_name_and_then_another(self):
        self.odds("a b 1 b 1 : made 1", "a b 1 b 2 : made 2", False)
        self.odds("a b 1 b 1 : made 1", "a b 1 c 2 : made 2", True)


class Drawn(Odds):
    LINES = [("a", reads, end) for many in range(3)
             for reads in itertools.product([("b", "0"), ("b", "1"), ("c", "0")], repeat=many)
             for end in (("made", "0"), ("made", "1"), ("fails", "b"), ("wants", "b"), ("wants", "c"))]

    def test_all_small_lines(self):
        seen = {True: 0, False: 0}
        for one, other in itertools.product(self.LINES, repeat=2):
            told = at_odds(one, other)
            self.assertIs(told, plain.at_odds(one, other), (one, other))
            seen[told] += 1
        for one in self.LINES:
            self.assertIs(at_odds(one, one), False)
        self.assertGreater(min(seen.values()), 500, seen)

    def test_never_two_that_are_right_by_one_honest_recipe(self):
        source = things.source(92)
        seen = 0
        for _ in range(300):
            recipe = things.right_lively(source, 5, things.HONEST, things.NAMES[:3])
            lines = [things.line_along(source, recipe) for _ in range(8)]
            for one, other in itertools.combinations(lines, 2):
                self.assertIs(at_odds(one, other), False)
                seen += one[1:] != other[1:]
        self.assertGreater(seen, 500)


class Watching(unittest.TestCase):
    def watched(self, *rows):
        """Each row (text, line, elder line or None), lines as words; told is the watch."""
        watch = Watch()
        self.assertEqual(watch.faults(), [])
        shown, faults = [], []
        for text, line, elder in rows:
            line, elder = line_by(line), elder and line_by(elder)
            told = watch.saw(text, line)
            self.assertEqual(told, elder)
            shown.append((text, line))
            faults += [(text, elder, line)] if elder else []
            self.assertEqual(watch.faults(), faults)
            self.assertEqual(plain.faults(shown), faults)
        return watch

    def test_none(self):
        watch = self.watched()
        self.assertIs(type(watch.faults()), list)

    def test_lines_of_one_text(self):
        self.watched(("x", "a : made 1", None), ("x", "a : made 1", None), ("x", "b : made 1", None))
        self.watched(("x", "a : made 1", None), ("x", "a : made 2", "a : made 1"))
        self.watched(("x", "a : wants b", None), ("x", "a b 1 : made 1", None), ("x", "a b 2 : wants c", None),
                     ("x", "a b 2 c 3 : fails y", None), ("x", "a b 1 : fails y", "a b 1 : made 1"))

    def test_lines_of_several_texts(self):
        self.watched(("x", "a : made 1", None), ("y", "a : made 2", None), ("", "a : made 3", None),
                     ("y", "a : made 1", "a : made 2"), ("x", "a : made 2", "a : made 1"),
                     ("no text of a recipe", "a : fails b", None), ("", "a : made 3", None),
                     ("", "a : made 1", "a : made 3"))

    def test_of_two_names(self):
        self.watched(("x", "a : made 1", None), ("x", "b : made 2", "a : made 1"))

    def test_the_first_elder_line_at_odds(self):
        self.watched(("x", "a b 1 : made 1", None), ("x", "a b 2 : made 1", None),
                     ("x", "a : fails y", "a b 1 : made 1"), ("x", "a b 2 : made 2", "a b 2 : made 1"),
                     ("x", "a b 1 : made 1", "a : fails y"),
                     ("x", "a b 2 c 1 : made 1", "a b 2 : made 1"), ("x", "a c 1 : made 1", "a b 1 : made 1"))

    def test_the_name_of_the_first_one(self):
        """Lines that are alike but for their names are others: the elder one is told."""
        self.watched(("x", "b : made 1", None), ("x", "a : made 1", None), ("x", "b : made 1", None),
                     ("x", "c : made 2", "b : made 1"), ("x", "a : made 2", "b : made 1"))

    def test_the_new_one_is_kept_in_either_case(self):
        self.watched(("x", "a : made 1", None), ("x", "a : made 2", "a : made 1"), ("x", "a : made 1", "a : made 2"),
                     ("x", "a : made 2", "a : made 1"), ("x", "a : made 3", "a : made 1"))
        self.watched(("x", "a b 1 : made 1", None), ("x", "a b 1 : made 2", "a b 1 : made 1"),
                     ("x", "a b 2 : made 2", None), ("x", "a b 2 : made 3", "a b 2 : made 2"),
                     ("x", "a b 1 : made 1", "a b 1 : made 2"))

    def test_the_same_fault_again(self):
        """Faults are told as often as they were found."""
        watch = self.watched(*[("x", "a : made 1", None)] * 2, *[("x", "a : made 2", "a : made 1")] * 3)
        self.assertEqual(len(watch.faults()), 3)

    def test_two_watches_have_nothing_in_common(self):
        one = self.watched(("x", "a : made 1", None))
        other = self.watched(("x", "a : made 2", None))
        self.assertEqual(one.saw("x", line_by("a : made 3")), line_by("a : made 1"))
        self.assertEqual(other.faults(), [])
        self.assertEqual(other.saw("x", line_by("a : made 3")), line_by("a : made 2"))
        self.assertEqual(len(one.faults()), 1)

    def test_told_lists_are_the_asker_s_own(self):
        watch = self.watched(("x", "a : made 1", None), ("x", "a : made 2", "a : made 1"))
        told = watch.faults()
        shown = list(told)
        told.clear()
        self.assertEqual(watch.faults(), shown)
        told = watch.faults()
        watch.saw("x", line_by("a : made 3"))
        self.assertEqual(told, shown)
        self.assertEqual(len(watch.faults()), 2)

    def test_drawn_lines(self):
        source = things.source(94)
        found = 0
        for _ in range(150):
            watch, shown = Watch(), []
            for _ in range(source.choice([5, 20, 40])):
                text, line = source.choice("xyz"), source.choice(Drawn.LINES)
                ahead = len(plain.faults(shown))
                shown.append((text, line))
                faults = plain.faults(shown)
                self.assertEqual(watch.saw(text, line), faults[-1][1] if len(faults) > ahead else None)
                self.assertEqual(watch.faults(), faults)
            found += len(faults)
        self.assertGreater(found, 300)

    def test_four_hundred_lines(self):
        watch = Watch()
        for k in range(399):
            self.assertIsNone(watch.saw("x", ("a", (("b", str(k)),), ("made", str(k)))))
        elder = ("a", (("b", "398"),), ("made", "398"))
        self.assertEqual(watch.saw("x", ("a", (("b", "398"),), ("made", "1"))), elder)

    def test_nothing_of_an_honest_recipe_s_lines(self):
        source = things.source(95)
        for _ in range(200):
            watch = Watch()
            for _ in range(3):
                recipe = things.right_lively(source, 4, things.HONEST, things.NAMES[:3])
                for _ in range(8):
                    self.assertIsNone(watch.saw(show_recipe(recipe), things.line_along(source, recipe)))
            self.assertEqual(watch.faults(), [])

    def test_of_recipes_with_a_peek(self):
        """Lines by good values of changed books: something is found just where two are at odds."""
        source = things.source(96)
        seen = {True: 0, False: 0}
        for _ in range(300):
            book, watch, shown = things.busy(source, things.PEEKING), Watch(), []
            for _ in range(5):
                for name, recipe in book[1].items():
                    shown.append((show_recipe(recipe), line_of(book, name)))
                    told = watch.saw(*shown[-1])
                    if told is not None:
                        self.assertIs(is_honest(recipe), False)
                        self.assertIs(at_odds(told, shown[-1][1]), True)
                book = things.turned(source, book, things.PEEKING)
            self.assertEqual(watch.faults(), plain.faults(shown))
            seen[watch.faults() != []] += 1
        self.assertGreater(min(seen.values()), 30, seen)


if __name__ == "__main__":
    unittest.main()
