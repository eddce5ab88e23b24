"""Point 61: what is reached from roots by what is held, and held swept by them."""

import copy
import unittest

import plain
import things
from redo.bringing import bring
from redo.held import is_held, paper_in, stands
from redo.recipetexts import show_recipe
from redo.making import line_of
from redo.sweeping import reached, swept

PEEK = "peek put 'b say got 0"


def held_of(*texts):
    """Held of these lines, of a recipe that may have come to any."""
    lines = [things.line_by(text) for text in texts]
    return {line[0]: (PEEK, line) for line in lines}


HELD = ("a b 1 c 2 : made 3", "b d 1 : fails e", "c : wants f", "f g 1 : wants c", "e : made 1", "h h 1 : made 1",
        "i : wants i", "j zz 1 yy 2 : wants xx")


class Sweeping(unittest.TestCase):
    def sweeps(self, texts, roots, names):
        """Reached are just these names, some without a line; what is held of them is kept as it was."""
        for rows in (texts, texts[::-1]):
            held = held_of(*rows)
            self.assertIs(is_held(held), True)
            with self.subTest(held=held, roots=roots):
                given = repr((held, roots))
                told = reached(held, roots)
                self.assertEqual(told, names)
                self.assertIs(type(told), list)
                left = swept(held, roots)
                self.assertIs(type(left), dict)
                self.assertEqual(left, {name: held[name] for name in names if name in held})
                self.assertEqual(repr((held, roots)), given)
                self.assertEqual(told, plain.reached(held, roots))

    def test_no_roots(self):
        self.sweeps((), [], [])
        self.sweeps(HELD, [], [])

    def test_roots_without_a_line(self):
        self.sweeps((), ["b", "a"], ["a", "b"])
        self.sweeps(HELD, ["z"], ["z"])
        self.sweeps(HELD, ["z", "e", "k"], ["e", "k", "z"])

    def test_roots_twice(self):
        self.sweeps(HELD, ["z", "z"], ["z"])
        self.sweeps(HELD, ["e", "h", "e", "e"], ["e", "h"])
        self.sweeps(HELD, ["b", "d", "b"] * 13, ["b", "d"])

    def test_reads_and_what_is_wanted_at_the_end(self):
        self.sweeps(HELD, ["a"], ["a", "b", "c", "d", "f", "g"])
        self.sweeps(HELD, ["c"], ["c", "f", "g"])
        self.sweeps(HELD, ["f"], ["c", "f", "g"])
        self.sweeps(HELD, ["j"], ["j", "xx", "yy", "zz"])
        self.sweeps(HELD, ["j", "e"], ["e", "j", "xx", "yy", "zz"])

    def test_a_failing_s_word_is_not_reached(self):
        self.sweeps(HELD, ["b"], ["b", "d"])

    def test_what_goes_round(self):
        self.sweeps(HELD, ["h"], ["h"])
        self.sweeps(HELD, ["i"], ["i"])
        self.sweeps(("a b 1 : made 1", "b a 1 : made 1", "c a 1 : made 1"), ["b"], ["a", "b"])

    def test_all(self):
        self.sweeps(HELD, list("jihfecba"), ["a", "b", "c", "d", "e", "f", "g", "h", "i", "j", "xx", "yy", "zz"])

    def test_sixty(self):
        names = [one + other for one in "abc" for other in "abcdefghijklmnopqrstuvwxyz"][:60]
        rows = tuple([f"{one} {other} 1 : made 1" for one, other in zip(names, names[1:])])
        self.sweeps(rows, names[:1], names)
        self.sweeps(rows, names[30:31], names[30:])
        self.sweeps(rows, names[-1:], names[-1:])

    def test_what_is_told_is_the_asker_s_own(self):
        held = held_of(*HELD)
        kept = copy.deepcopy(held)
        reached(held, ["a"]).clear()
        swept(held, list("abcdefghij")).clear()
        self.assertEqual(held, kept)
        told = swept(held, list("abcdefghij"))
        names = reached(held, ["c"])
        held.clear()
        self.assertEqual(told, kept)
        self.assertEqual(names, ["c", "f", "g"])

    def test_any(self):
        """A paper in held of the roots is as it was; swept again nothing goes."""
        source = things.source(161)
        seen = {"line": 0, "none": 0, "gone": 0}
        for _ in range(800):
            held = things.elder(source)[1]
            roots = [source.choice(things.NAMES) for _ in range(source.choice([0, 1, 1, 2, 4]))]
            names = plain.reached(held, roots)
            self.assertEqual(reached(held, roots), names)
            left = swept(held, roots)
            self.assertEqual(left, {name: held[name] for name in held if name in names})
            self.assertEqual(paper_in(left, roots), paper_in(held, roots))
            self.assertEqual(reached(left, roots), names)
            self.assertEqual(swept(left, roots), left)
            seen["line"] += len(left)
            seen["none"] += len(names) - len(left)
            seen["gone"] += len(held) - len(left)
        self.assertGreater(min(seen.values()), 100, seen)

    def test_where_all_reached_stand_what_is_brought_is_kept(self):
        source = things.source(162)
        seen = 0
        for _ in range(500):
            book, held = things.elder(source, source.choice([things.HONEST, things.PEEKING]))
            roots = things.asked_names(source, book)
            if source.random() < 0.7:
                held.update({name: (show_recipe(book[1][name]), line_of(book, name)) for name in book[1]})
            if not all(stands(book, held, name) for name in reached(held, roots) if name in book[1]):
                continue
            left = swept(held, roots)
            told, log = bring(book, left, roots)
            self.assertEqual(told, left)
            self.assertEqual(bring(book, held, roots), (held, log))
            self.assertEqual([word for word, _ in log], ["kept"] * len(log))
            seen += len(log)
        self.assertGreater(seen, 300)


if __name__ == "__main__":
    unittest.main()
