"""Point 93: of lines an honest recipe that comes to all of them, or two that are at odds."""

import itertools
import unittest

import plain
import things
from redo.honest import honest_by
from redo.lines import is_line, is_right
from redo.recipes import is_honest, is_recipe, size_of
from redo.recipetexts import read_recipe, show_recipe
from redo.stamps import stamp_of
from redo.untold import Watch, at_odds

LONG = "abcdefgh"
TWENTY = "a0-" * 6 + "zz"
# Values that differ little, and the greatest that a line can have.
VALUES = [0, 1, -1, "", "0", "1", "-1", (), (0,), ("",), ("0",), ((),), (((),),), ((((),),),), 10 ** 18, -10 ** 18,
          TWENTY, (TWENTY,) * 8, things.FORTY, (TWENTY, things.FORTY[0]), ((TWENTY,) * 8,) * 4]


class Honest(unittest.TestCase):
    def told(self, lines):
        """What is told: of the kind promised and right, what is handed in as it was."""
        given = repr(lines)
        told = honest_by(lines)
        self.assertEqual(repr(lines), given)
        self.assertIs(type(told), tuple)
        if told[0] == "recipe":
            self.assertEqual(len(told), 2)
            self.is_a_recipe_of(told[1], lines)
        else:
            self.assertEqual((told[0], len(told)), ("odds", 3))
            self.assertEqual([type(told[1]), type(told[2])], [int, int])
            self.assertTrue(0 <= told[1] < told[2] < len(lines), told)
            self.assertIs(at_odds(lines[told[1]], lines[told[2]]), True)
            self.assertIs(plain.at_odds(lines[told[1]], lines[told[2]]), True)
        some = any(plain.at_odds(one, other) for one, other in itertools.combinations(lines, 2))
        self.assertEqual(told[0], "odds" if some else "recipe")
        return told

    def is_a_recipe_of(self, recipe, lines):
        self.assertIs(is_recipe(recipe), True)
        self.assertIs(is_honest(recipe), True)
        self.assertEqual(read_recipe(show_recipe(recipe)), recipe)
        self.assertLessEqual(len(show_recipe(recipe)), 60000)
        watch = Watch()
        for line in lines:
            self.assertIs(is_line(line), True)
            self.assertIs(is_right(recipe, line), True)
            self.assertIs(plain.right(recipe, line), True)
            self.assertIsNone(watch.saw("x", line))

    def recipe(self, *texts):
        self.kind("recipe", [things.line_by(text) for text in texts])

    def odds(self, *texts):
        self.kind("odds", [things.line_by(text) for text in texts])

    def kind(self, word, lines):
        """Whatever their order."""
        for some in itertools.permutations(lines):
            with self.subTest(lines=some):
                self.assertEqual(self.told(list(some))[0], word)


class Recipes(Honest):
    def test_of_no_line(self):
        self.assertEqual(self.told([])[0], "recipe")

    def test_of_one(self):
        for text in ("a : made 1", "a : fails x", "a : wants b", "a b 1 : made 1", "a b 1 : fails x", "a b 1 : wants b",
                     "a b 1 c 2 d 3 : made (1,2)", "a b 1 b 1 b 1 : wants b", "a a 1 : wants a",
                     "a b 1 c 2 d 3 : wants e", "a b 0 c ' d () : fails fail"):
            self.recipe(text)

    def test_the_same_again(self):
        for text in ("a : made 1", "a : wants b", "a b 1 c 1 d 2 : wants e"):
            self.recipe(text, text)
            self.recipe(*[text] * 5)
            self.recipe(text, "q" + text[1:])

    def test_one_that_goes_further(self):
        self.recipe("a : wants b", "a b 1 : made 1")
        self.recipe("a : wants b", "a b 1 : wants c", "a b 1 c 1 : wants d", "a b 1 c 1 d 1 : wants e")
        self.recipe("a b 1 : wants c", "a b 2 : made 1")

    def test_parted_by_stamps(self):
        self.recipe("a b 1 : made 1", "a b 2 : made 2")
        self.recipe("a b 1 : made 1", "a b '1 : made 2", "a b (1) : made 3")
        self.recipe("a b 0 : made 1", "a b ' : made 2", "a b () : fails x", "a b (()) : wants c", "a : wants b")
        self.recipe("a b 0 : made 0", "a b 1 : made 0", "a b 2 : made 0", "a b 3 : made 0", "a b 4 : made 1")

    def test_parted_later(self):
        self.recipe("a b 1 c 1 : made 1", "a b 1 c 2 : made 2")
        self.recipe("a b 1 c 1 d 1 : made 1", "a b 1 c 1 d 2 : made 2", "a b 1 c 1 d 3 : fails x",
                    "a b 1 c 1 d 4 : wants e", "a b 1 c 1 : wants d")
        self.recipe("a b 1 c 1 : made 1", "a b 1 c 2 : made 2", "a b 2 c 1 : made 3", "a b 2 c 2 : made 4")
        self.recipe("a b 1 c 1 : made 1", "a b 1 c 2 d 1 : made 2", "a b 2 e 1 : made 3", "a b 2 e 2 b 1 : fails x",
                    "a b 3 : wants b")

    def test_by_values_got_before(self):
        """They part by the first read, and do the same for a while."""
        self.recipe("a b 1 c 1 d 1 : made 1", "a b 2 c 1 d 1 : made 2", "a b 3 c 1 d 1 : fails x",
                    "a b 4 c 1 d 1 : wants e", "a b 5 c 1 d 1 : wants f")
        self.recipe("a b 1 b 1 b 1 : made 1", "a b 1 b 1 b 2 : made 2", "a b 1 b 2 b 1 : made 3",
                    "a b 2 b 1 b 1 : made 4", "a b 2 b 2 b 2 : made 5")

    def test_each_end_and_each_place(self):
        for ends in itertools.product(("made 7", "fails x", "wants c"), repeat=3):
            for reads in (("b 1", "b 2", "b 3"), ("b 1 c 1", "b 1 c 2", "b 2"),
                          ("b 1 c 1 d 1", "b 1 c 1 d 2", "b 1 c 2")):
                self.recipe(*[f"a {some} : {end}" for some, end in zip(reads, ends)])

    def test_the_greatest(self):
        """Five that part at the first read, at the second or at the third, all with wants at their ends."""
        for at in range(3):
            names = [LONG[k:] + LONG[:k] for k in range(8)]
            lines = []
            for k, value in enumerate(VALUES[-5:]):
                reads = [(names[0], stamp_of(things.FORTY))] * 3
                reads[at] = (reads[at][0], stamp_of(value))
                for later in range(at + 1, 3):
                    reads[later] = (names[k], stamp_of(VALUES[-k - 1]))
                lines.append((names[k], tuple(reads), ("wants", names[k + 1])))
            self.kind("recipe", lines)
            for k, line in enumerate(lines):
                lines[k] = line[:2] + (("made", stamp_of(VALUES[-k - 1])),)
            self.kind("recipe", lines)

    def test_by_values_of_all_sizes(self):
        for one, other in itertools.combinations(VALUES, 2):
            one, other = stamp_of(one), stamp_of(other)
            lines = [(LONG, (("b", one),), ("made", other)), (LONG, (("b", other),), ("made", one)),
                     (LONG, (("b", "'q"), (LONG, one)), ("made", one)),
                     (LONG, (("b", "'q"), (LONG, other)), ("fails", LONG)), (LONG, (), ("wants", "b"))]
            self.assertEqual(self.told(lines)[0], "recipe")

    def test_its_size(self):
        """Five lines of three reads never take more than sixty."""
        lines = [("a", (("b", str(k)), ("c", str(k)), ("d", str(k))), ("wants", "e")) for k in range(5)]
        many, deep, wants = size_of(self.told(lines)[1])
        self.assertLessEqual(many, 60)
        self.assertLessEqual(deep, 20)
        self.assertLessEqual(wants, 12)


class AtOdds(Honest):
    def test_of_two(self):
        self.odds("a : made 1", "a : made 2")
        self.odds("a : made 1", "b : fails x")
        self.odds("a : wants x", "a : fails x")
        self.odds("a b 1 : made 1", "a c 1 : made 1")
        self.odds("a b 1 : made 1", "a : made 1")
        self.odds("a b 1 c 1 d 1 : made 1", "a b 1 c 1 d 1 : made 2")
        self.odds("a b 1 c 1 d 1 : wants e", "a b 1 c 1 d 1 : wants f")

    def test_of_more(self):
        self.odds("a b 1 : made 1", "a b 2 : made 2", "a b 1 : made 3")
        self.odds("a b 1 : made 1", "a b 2 : made 2", "a b 3 : made 3", "a b 4 : made 4", "a b 3 : fails x")
        self.odds("a : wants b", "a b 1 : made 1", "a b 2 c 1 : made 1", "a b 2 c 2 : made 1", "a b 2 d 2 : made 1")
        self.odds("a : made 1", "a : made 2", "a : made 3", "a : made 4", "a : made 5")

    def test_the_places(self):
        for texts, places in ((("a b 1 : made 1", "a b 2 : made 2", "a b 1 : made 3"), (0, 2)),
                              (("a : wants b", "a b 1 : made 2", "a b 1 : made 3"), (1, 2)),
                              (("a : made 2", "a b 1 : made 2", "a : made 2"), None)):
            told = self.told([things.line_by(text) for text in texts])
            self.assertIn(told[1:], [places] if places else [(0, 1), (1, 2)])


class Drawn(Honest):
    def test_all_pairs_and_many_threes_of_small_lines(self):
        lines = [("a", reads, end) for many in range(3)
                 for reads in itertools.product([("b", "0"), ("b", "1"), ("c", "0")], repeat=many)
                 for end in (("made", "0"), ("fails", "b"), ("wants", "b"), ("wants", "c"))]
        for pair in itertools.product(lines, repeat=2):
            self.told(list(pair))
        source = things.source(93)
        seen = {"recipe": 0, "odds": 0}
        for _ in range(3000):
            seen[self.told([source.choice(lines) for _ in range(source.choice([3, 4, 5]))])[0]] += 1
        self.assertGreater(min(seen.values()), 100, seen)

    def test_the_doings_of_an_honest_recipe(self):
        source = things.source(94)
        sizes = set()
        for _ in range(800):
            recipe = things.right_lively(source, 6, things.HONEST, [LONG, "b", "c"])
            pool = source.sample(VALUES, source.choice([1, 2, 4]))
            names = [source.choice(["a", LONG]) for _ in range(source.randint(0, 5))]
            lines = [things.line_along(source, recipe, name, pool) for name in names]
            lines = [line for line in lines if len(line[1]) <= 3]
            self.assertEqual(self.told(lines)[0], "recipe")
            sizes.add((len(lines), sum(len(line[1]) for line in lines)))
        self.assertGreater(len(sizes), 20)

    def test_bent_doings(self):
        source = things.source(95)
        seen = {"recipe": 0, "odds": 0}
        for _ in range(1500):
            recipe = things.right_lively(source, 4, things.HONEST, ["b", "c"])
            lines = [things.line_along(source, recipe) for _ in range(source.randint(2, 5))]
            place = source.randrange(len(lines))
            name, reads, end = lines[place]
            bent = source.choice([reads, reads[1:], reads[:-1], things.reads(source)])
            lines[place] = (name, bent, source.choice([end, ("made", "1"), ("fails", "x"), ("wants", "b")]))
            lines = [line for line in lines if len(line[1]) <= 3]
            seen[self.told(lines)[0]] += 1
        self.assertGreater(min(seen.values()), 300, seen)

    def test_the_told_recipe_parts_from_others_as_their_lines_do(self):
        """So a line is at odds with one of some just where no honest recipe comes to all of them."""
        source = things.source(96)
        for _ in range(300):
            recipe = things.right_lively(source, 3, things.HONEST, ["b", "c"])
            lines = [things.line_along(source, recipe) for _ in range(4)]
            other = ("a", things.reads(source), ("made", "1"))
            lines = [line for line in lines if len(line[1]) <= 3]
            some = any(at_odds(other, line) for line in lines)
            self.assertEqual(self.told(lines + [other])[0], "odds" if some else "recipe")


class Beyond(unittest.TestCase):
    def test_more_lines_and_reads_are_not_refused(self):
        lines = [("a", (("b", str(k)),) * 4, ("made", str(k))) for k in range(7)]
        self.assertEqual(honest_by(lines)[0], "recipe")
        self.assertEqual(honest_by(lines + [("a", (("b", "6"),), ("fails", "x"))]), ("odds", 6, 7))


if __name__ == "__main__":
    unittest.main()
