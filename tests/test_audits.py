"""Points 90 and 91: stale names, held let go of them, and what is brought, woven or fetched then."""

import copy
import unittest

import plain
import things
from redo.audits import let_go, stale
from redo.booktexts import read_book
from redo.bringing import bring
from redo.fetching import bring_by
from redo.held import is_held, stands
from redo.making import good_values, line_of
from redo.recipetexts import show_recipe
from redo.shelf import Shelf
from redo.weaving import woven

PEEKS = ["told t 1", "told s 2", "made a want put 't peek put 's say row 2 got 0 got 1"]


class Audits(unittest.TestCase):
    def stale(self, book, held):
        """What is told: as a plain reading tells it, what is handed in as it was."""
        self.assertIs(is_held(held), True)
        given = repr((book, held))
        told = stale(book, held)
        self.assertIs(type(told), list)
        self.assertEqual(told, plain.stale(book, held))
        self.assertEqual(repr((book, held)), given)
        return told

    def is_stale(self, rows, held, wanted, does_stand=None):
        """The stale names; of one, whether its line stands."""
        for some in (rows, rows[::-1]):
            book = read_book(some)
            self.assertEqual(self.stale(book, held), wanted.split())
            self.assertEqual(self.stale(book, dict(sorted(held.items(), reverse=True))), wanted.split())
            if does_stand is not None:
                self.assertIs(stands(book, held, *held), does_stand)

    def held(self, rows, *lines):
        return things.held_by(read_book(rows), *lines)


class Stale(Audits):
    def test_nothing_is_held(self):
        self.is_stale([], {}, "")
        self.is_stale(PEEKS, {}, "")

    def test_the_line_by_good_values(self):
        self.is_stale(PEEKS, self.held(PEEKS, "a t 1 : made (1,2)"), "", True)

    def test_another_line_that_stands(self):
        for end in ("made (1,3)", "made 1", "fails x", "wants zz"):
            self.is_stale(PEEKS, self.held(PEEKS, "a t 1 : " + end), "a", True)
        self.is_stale(PEEKS, self.held(PEEKS, "a : made (1,2)"), "a", True)
        self.is_stale(PEEKS, self.held(PEEKS, "a t 1 t 1 : made (1,2)"), "a", True)
        self.is_stale(PEEKS, self.held(PEEKS, "a t 1 s 2 : made (1,2)"), "a", True)

    def test_another_line_that_does_not_stand(self):
        for line in ("a t 5 : made (5,2)", "a t 1 : wants s", "a t 1 : wants t", "a t 1 zz 1 : made (1,2)"):
            self.is_stale(PEEKS, self.held(PEEKS, line), "a", False)

    def test_the_line_of_what_is_not_good(self):
        """Such as one that peeks what fails, lacks or goes round; a line by good values stands."""
        rows = ["told t 1", "made a want put 't peek put 'b say got 1", "made b fail x"]
        for other in (rows, rows[:2], rows[:2] + ["made b want put 'a say put 1"],
                      rows[:2] + ["made b peek put 'b fail x"]):
            self.is_stale(other, self.held(other, "a t 1 : wants b"), "", True)
            self.is_stale(other, self.held(other, "a t 1 : made 3"), "a", True)
            self.is_stale(other, self.held(other, "a t 2 : wants b"), "a", False)
        rows = ["made a peek put 7 say put 1"]
        self.is_stale(rows, self.held(rows, "a : fails name"), "", True)
        self.is_stale(rows, self.held(rows, "a : fails kind"), "a", True)

    def test_what_is_peeked_is_otherwise_now(self):
        book = read_book(PEEKS)
        held = bring(book, {}, ["a"])[0]
        self.assertEqual(self.stale(book, held), [])
        for value in (3, "x", ()):
            self.is_stale(["told t 1", f"told s {things.stamp_of(value)}"] + PEEKS[2:], held, "a", True)
        self.is_stale(PEEKS[::2], held, "a", True)
        self.is_stale(["told t 1", "made s fail x"] + PEEKS[2:], held, "a", True)
        self.is_stale(["told t 1", "made s say put 2"] + PEEKS[2:], held, "", True)

    def test_honest_recipes(self):
        """Whether their lines stand or not: bringing finds what to do of these by itself."""
        rows = ["told t 1", "made a want put 't say got 0", "made b want put 'z say put 1", "made c fail peek"]
        self.is_stale(rows, self.held(rows, "a t 1 : made 1"), "", True)
        self.is_stale(rows, self.held(rows, "a t 2 : made 2"), "", False)
        self.is_stale(rows, self.held(rows, "a : wants t"), "", False)
        self.is_stale(rows, self.held(rows, "b : wants z"), "", True)
        self.is_stale(rows, self.held(rows, "b z 5 : made 1"), "", False)
        self.is_stale(rows, self.held(rows, "c : fails peek"), "", True)

    def test_a_peek_on_a_way_that_is_not_gone(self):
        rows = ["told t 0", "told s 2", "made a want put 't when got 0 peek put 's say got 1 say put 9"]
        self.is_stale(rows, self.held(rows, "a t 0 : made 9"), "", True)
        self.is_stale(rows, self.held(rows, "a t 0 : made 2"), "a", True)
        self.is_stale(rows, self.held(rows, "a t 1 : made 2"), "a", False)

    def test_another_recipe_s_text(self):
        line = things.line_by("a t 1 : made (1,3)")
        for text in ("want put 't peek put 's say row 2 got 0 put 3", "peek put 's say put 1"):
            self.is_stale(PEEKS, {"a": (text, line)}, "", False)
        self.is_stale(PEEKS, {"a": ("want put 't say row 2 got 0 put 3", line)}, "", False)
        rows = ["told t 1", "made a want put 't say got 0"]
        self.is_stale(rows, {"a": (PEEKS[2][7:], line)}, "", False)

    def test_names_that_the_book_tells_or_has_not(self):
        held = self.held(PEEKS, "a t 1 : made (1,3)")
        self.is_stale(["told t 1", "told s 2", "told a 5"], held, "", False)
        self.is_stale(["told t 1", "told s 2"], held, "", False)
        self.is_stale([], held, "", False)

    def test_rising(self):
        rows = ["told s 2"] + [f"made {name} peek put 's say got 0" for name in ("b", "aa", "c", "a", "ab")]
        lines = [f"{name} : made 3" for name in ("c", "a", "b", "ab", "aa")]
        self.is_stale(rows, self.held(rows, *lines), "a aa ab b c")
        self.is_stale(rows, self.held(rows, *lines[:3], "ab : made 2", "aa : made 2"), "a b c")

    def test_one_that_reads_a_stale_one(self):
        """It is not stale itself where its recipe is honest, nor where its line is that by good values."""
        rows = ["told s 2", "made a peek put 's say got 0", "made b want put 'a say got 0",
                "made c peek put 'a say got 0", "made d want put 'a peek put 's say put 1"]
        held = self.held(rows, "a : made 3", "b a 3 : made 3", "c : made 3", "d a 3 : made 1")
        self.is_stale(rows, held, "a c d")
        held = self.held(rows, "a : made 3", "b a 3 : made 3", "c : made 2", "d a 2 : made 1")
        self.is_stale(rows, held, "a")

    def test_drawn_books(self):
        source = things.source(90)
        seen = {"stale": 0, "stands": 0, "not": 0}
        for _ in range(700):
            book, held = things.elder(source)
            told = self.stale(book, held)
            self.assertEqual(stale(things.shuffled(source, book), held), told)
            seen["stale"] += len(told)
            seen["stands"] += len([name for name in told if stands(book, held, name)])
            seen["not"] += len([name for name in held if name in book[1] and "peek" in held[name][0]]) - len(told)
        self.assertGreater(min(seen.values()), 100, seen)

    def test_none_of_an_honest_book(self):
        source = things.source(91)
        for _ in range(200):
            book, held = things.elder(source, things.HONEST)
            self.assertEqual(self.stale(book, held), [])


class LetGo(Audits):
    def lets_go(self, held, names, wanted):
        given = repr((held, names))
        told = let_go(held, names)
        self.assertIs(type(told), dict)
        self.assertEqual(told, {name: held[name] for name in wanted.split()})
        self.assertEqual(repr((held, names)), given)
        self.assertIs(is_held(told), True)

    def test_names(self):
        rows = PEEKS + ["made b say put 1", "made c fail x"]
        held = self.held(rows, "a t 1 : made 5", "b : made 1", "c : fails x")
        self.lets_go(held, [], "a b c")
        self.lets_go(held, ["a"], "b c")
        self.lets_go(held, ["b", "a", "b"], "c")
        self.lets_go(held, ["a", "b", "c"], "")
        self.lets_go(held, ["t", "zz", "", "no name"], "a b c")
        self.lets_go(held, ["zz", "c", "t", "c"], "a b")

    def test_of_none(self):
        self.lets_go({}, [], "")
        self.lets_go({}, ["a"], "")

    def test_what_is_told_is_the_asker_s_own(self):
        held = self.held(PEEKS, "a t 1 : made 5")
        for names in ([], ["zz"]):
            told = let_go(held, names)
            told.clear()
            self.assertEqual(len(held), 1)
            told = let_go(held, names)
            kept = dict(held)
            held.clear()
            self.assertEqual(told, kept)
            held.update(kept)
        told = stale(read_book(PEEKS), held)
        told.append("b")
        self.assertEqual(stale(read_book(PEEKS), held), ["a"])


class Behind(Audits):
    """Where no name is stale: what is brought, woven or fetched has its line by good values behind it (91)."""

    def ways(self, source, book, held, names):
        """What is told by each way."""
        turns = [source.randrange(20) for _ in range(source.choice([0, 30, 300]))]
        shelf = Shelf()
        for entry in things.entries(source, book):
            shelf.put(entry)
        return (bring(book, held, names), woven(book, held, names, turns), bring_by(book, held, shelf, names))

    def named(self, book, names):
        """The made names among these, and those that they want or peek at by good values."""
        good, found = good_values(book), []
        left = [name for name in names if name in book[1]]
        while left:
            name = left.pop()
            if name not in found:
                found.append(name)
                reads, peeks, came = plain.gone(book[1][name], good)
                near = [other for other, _ in reads + peeks] + ([came[1]] if came[0] in ("wants", "peeks") else [])
                left += [other for other in near if other in book[1]]
        return sorted(found)

    def has_its_lines(self, book, told, log, names):
        for _, name in log:
            self.assertEqual(told[name], (show_recipe(book[1][name]), plain.line(book, name)))
            self.assertEqual(told[name][1], line_of(book, name))
        brought = sorted([name for _, name in log])
        self.assertEqual(sorted(set(brought)), brought)
        self.assertLessEqual(set(name for name in names if name in book[1]), set(brought))
        self.assertLessEqual(set(brought), set(self.named(book, names)))

    def test_held_let_go_of_all_stale_ones(self):
        source = things.source(92)
        seen = {"kept": 0, "done": 0, "fetched": 0}
        otherwise = 0
        for _ in range(500):
            book, held = things.elder(source)
            names = things.asked_names(source, book)
            left = let_go(held, stale(book, held))
            self.assertEqual(self.stale(book, left), [])
            for told, log in self.ways(source, book, left, names):
                self.has_its_lines(book, told, log, names)
                self.assertEqual(self.stale(book, told), [])
                for word, _ in log:
                    seen[word] += 1
            told, log = bring(book, held, names)
            otherwise += any(told[name][1] != plain.line(book, name) for _, name in log)
        self.assertGreater(min(seen.values()), 80, seen)
        # Without that it is not so.
        self.assertGreater(otherwise, 20)

    def test_of_all_names(self):
        source = things.source(93)
        for _ in range(150):
            book, held = things.elder(source)
            left = let_go(held, stale(book, held))
            names = sorted(book[1])
            for told, log in self.ways(source, book, left, names):
                self.assertEqual(sorted([name for _, name in log]), names)
                self.has_its_lines(book, told, log, names)

    def test_by_a_row_of_changes(self):
        source = things.source(94)
        gone = 0
        for _ in range(60):
            book, held = things.busy(source, things.PEEKING), {}
            for _ in range(6):
                names = things.asked_names(source, book)
                found = self.stale(book, held)
                gone += len(found)
                told, log = source.choice(self.ways(source, book, let_go(held, found), names))
                self.has_its_lines(book, told, log, names)
                held = told
                book = source.choice([things.changed, things.turned])(source, book, things.PEEKING)
        self.assertGreater(gone, 50)

    def test_one_that_is_kept_without_that(self):
        book, held = read_book(PEEKS), self.held(PEEKS, "a t 1 : made (1,3)")
        kept = copy.deepcopy((book, held))
        for told, log in self.ways(things.source(95), book, held, ["a"]):
            self.assertEqual((told, log), (held, [("kept", "a")]))
        left = let_go(held, stale(book, held))
        for told, log in self.ways(things.source(96), book, left, ["a"]):
            self.assertEqual((told["a"][1], log), (things.line_by("a t 1 : made (1,2)"), [("done", "a")]))
        self.assertEqual((book, held), kept)


if __name__ == "__main__":
    unittest.main()
