"""Points 78 and 79, and of 5: what is brought by a shelf, fetched from it and put on it."""

import copy
import unittest

import plain
import things
from redo.booktexts import read_book
from redo.bringing import bring
from redo.checker import lets_by
from redo.fetching import bring_by
from redo.held import is_held, stands
from redo.making import fresh, line_of
from redo.merging import merged
from redo.papers import result_by
from redo.recipetexts import show_recipe
from redo.shelf import Shelf
from redo.shelftexts import shelf_by, written


def shelf_of(entries):
    shelf = Shelf()
    for entry in entries:
        shelf.put(entry)
    return shelf


class Fetching(unittest.TestCase):
    def fetched(self, book, held, shelf, names):
        """What is told: of the kinds promised, what is handed in as it was but for the shelf, and all as a plain
        reading tells it and puts it on the shelf."""
        self.assertIs(is_held(held), True)
        given = repr((book, held, names))
        entries = shelf.entries()
        told = bring_by(book, held, shelf, names)
        self.assertEqual(repr((book, held, names)), given)
        self.assertEqual([type(told), type(told[0]), type(told[1]), len(told)], [tuple, dict, list, 2])
        self.assertIs(is_held(told[0]), True)
        wanted = plain.brought(book, held, names, entries)
        self.assertEqual(told, wanted)
        self.assertEqual(repr((sorted(told[0].items()), told[1])), repr((sorted(wanted[0].items()), wanted[1])))
        self.assertEqual(repr(shelf.entries()), repr(entries))
        return told

    def fetches(self, rows, held, entries, names, log, *lines):
        """By a shelf of these entries: behind it these lines are held in the place of elder ones; log: words such as
        "kept a done b fetched c". Told are the entries that were put on the shelf, as texts."""
        with self.subTest(rows=rows, held=held, names=names, entries=entries):
            book = read_book(rows)
            put = []
            for same in (book, read_book(rows[::-1])):
                shelf = shelf_of(entries)
                told = self.fetched(same, held, shelf, names)
                words = log.split()
                self.assertEqual(told[1], list(zip(words[::2], words[1::2])))
                self.assertEqual(told[0], dict(held, **things.held_by(book, *lines)))
                settled = [name for word, name in told[1] if word != "kept"]
                self.assertEqual(sorted(settled), sorted([things.line_by(line)[0] for line in lines]))
                self.assertEqual(shelf.entries()[:len(entries)], list(entries))
                put.append(written(shelf)[len(entries):])
            self.assertEqual(put[0], put[1])
            return put[0]

    def held(self, rows, *lines):
        return things.held_by(read_book(rows), *lines)


class Empty(Fetching):
    """By an empty shelf: as bring, and what is done is put on it."""

    def same(self, rows, held, names, *put):
        book = read_book(rows)
        shelf = Shelf()
        told = self.fetched(book, held, shelf, names)
        self.assertEqual(told, bring(book, held, names))
        self.assertEqual(written(shelf), list(put))

    def test_nothing(self):
        self.same([], {}, [])
        self.same(["told a 1", "made b say put 1"], {}, [])
        self.same(["told a 1", "made b say put 1"], {}, ["a", "z", "", "no name at all"])

    def test_the_ends(self):
        self.same(["made a say put 1"], {}, ["a"], "made 1 0 say put 1")
        self.same(["made a fail x"], {}, ["a"], "fails x 0 fail x")
        self.same(["made a say many put 1"], {}, ["a"], "fails kind 0 say many put 1")
        self.same(["made a want put 7 say put 1"], {}, ["a"], "fails name 0 want put 7 say put 1")
        self.same(["made a want put 'z say put 1"], {}, ["a"])
        self.same(["made a want put 'a say put 1"], {}, ["a"])
        self.same(["told t 5", "made a want put 't want put 'z say put 1"], {}, ["a"])

    def test_names_twice(self):
        self.same(["made a say put 1", "made b fail x"], {}, ["b", "a", "b", "z", "a"],
                  "fails x 0 fail x", "made 1 0 say put 1")

    def test_in_the_order_of_settling(self):
        rows = ["told t 5", "made a want put 'b want put 'c say row 2 got 0 got 1", "made b want put 't say got 0",
                "made c want put 'd say got 0", "made d say put 2", "made e want put 'a fail y"]
        a, b, c, d, e = ("made (5,2) 2 b 5 c 2 " + rows[1][7:], "made 5 1 t 5 " + rows[2][7:],
                         "made 2 1 d 2 " + rows[3][7:], "made 2 0 say put 2", "fails y 1 a (5,2) " + rows[5][7:])
        self.same(rows, {}, ["e"], b, d, c, a, e)
        self.same(rows, {}, ["c", "e"], d, c, b, a, e)
        self.same(rows, {}, ["d", "b"], d, b)

    def test_what_is_kept_is_not_put(self):
        rows = ["told t 5", "made a want put 'b say got 0", "made b want put 't say got 0"]
        held = self.held(rows, "b t 5 : made 5")
        self.same(rows, held, ["a"], "made 5 1 b 5 want put 'b say got 0")
        self.same(rows, held, ["b"])
        self.same(rows, self.held(rows, "a b 5 : made 5", "b t 5 : made 5"), ["a"])

    def test_recipes_with_peeks_are_not_put(self):
        rows = ["told t 5", "made a peek put 't say got 0", "made b want put 'a say got 0",
                "made c want put 't when got 0 say put 1 peek put 'a fail x", "made d fail peek",
                "made e peek put 7 fail x"]
        self.same(rows, {}, ["a", "b", "c", "d", "e"], "made 5 1 a 5 want put 'a say got 0", "fails peek 0 fail peek")

    def test_rings_are_not_put(self):
        rows = ["told t 1", "made a want put 't want put 'b say put 1", "made b want put 'a say put 1", "made c fail x"]
        self.same(rows, {}, ["a", "c"], "fails x 0 fail x")

    def test_two_things_by_one_recipe(self):
        """What the one was done for is fetched for the other."""
        rows = ["told t 5", "made a want put 't say got 0", "made b want put 't say got 0", "made c say put 1",
                "made d say put 1"]
        put = self.fetches(rows, {}, [], ["b", "a", "c", "d"], "done b fetched a done c fetched d",
                           "a t 5 : made 5", "b t 5 : made 5", "c : made 1", "d : made 1")
        self.assertEqual(put, ["made 5 1 t 5 want put 't say got 0", "made 1 0 say put 1"])
        rows = ["made a want put 'z say put 1", "made b want put 'z say put 1", "made c peek put 'd say put 1",
                "made d peek put 'd say put 1", "made e peek put 7 say put 1", "made f peek put 7 say put 1"]
        put = self.fetches(rows, {}, [], list("abcdef"), "done a done b done d done c done e done f",
                           "a : wants z", "b : wants z", "c : wants d", "d : wants d", "e : fails name",
                           "f : fails name")
        self.assertEqual(put, [])

    def test_one_recipe_within_its_own_doing(self):
        """The inner one wants the same as the outer one, which is under way then: so nothing is put for it."""
        rows = ["made a want put 'b say got 0", "made b want put 'x say put 1", "made x want put 'b say got 0"]
        for entries in ([], [things.entry("want put 'b say got 0", "b 5 : made 5")]):
            put = self.fetches(rows, {}, entries, ["a"], "done x done b done a", "a : wants b", "b : wants x",
                               "x : wants b")
            self.assertEqual(put, [])


class ByAShelf(Fetching):
    ONE = "want put 'b say got 0"
    TWO = "want put 'b want put 'c say row 2 got 0 got 1"

    def test_an_end_at_once(self):
        rows = ["made a say put 1", "made b fail x"]
        entries = [things.entry("say put 1", ": made 1"), things.entry("fail x", ": fails x")]
        put = self.fetches(rows, {}, entries, ["a", "b"], "fetched a fetched b", "a : made 1", "b : fails x")
        self.assertEqual(put, [])
        put = self.fetches(rows, {}, entries[:1], ["a", "b"], "fetched a done b", "a : made 1", "b : fails x")
        self.assertEqual(put, ["fails x 0 fail x"])
        put = self.fetches(rows, {}, entries[1:], ["a", "b"], "done a fetched b", "a : made 1", "b : fails x")
        self.assertEqual(put, ["made 1 0 say put 1"])

    def test_an_end_behind_reads(self):
        rows = ["told b 5", "made a " + self.ONE]
        entry = things.entry(self.ONE, "b 5 : made 5")
        self.assertEqual(self.fetches(rows, {}, [entry], ["a"], "fetched a", "a b 5 : made 5"), [])
        rows = ["made b say put 5", "made a " + self.ONE]
        put = self.fetches(rows, {}, [entry], ["a"], "done b fetched a", "a b 5 : made 5", "b : made 5")
        self.assertEqual(put, ["made 5 0 say put 5"])
        put = self.fetches(rows, {}, [things.entry("say put 5", ": made 5"), entry], ["a"], "fetched b fetched a",
                           "a b 5 : made 5", "b : made 5")
        self.assertEqual(put, [])
        rows = ["told b 1", "told c ()", "made a " + self.TWO]
        entry = things.entry(self.TWO, "b 1 c () : made (1,())")
        self.fetches(rows, {}, [entry], ["a"], "fetched a", "a b 1 c () : made (1,())")
        twelve = "want put 'b " * 12 + "fail x"
        self.fetches(["told b 1", "made a " + twelve], {}, [things.entry(twelve, "b 1 " * 12 + ": fails x")], ["a"],
                     "fetched a", "a " + "b 1 " * 12 + ": fails x")

    def test_a_name_that_is_not_good(self):
        entry = things.entry(self.ONE, "b 5 : made 5")
        rows = ["made a " + self.ONE]
        self.assertEqual(self.fetches(rows, {}, [entry], ["a"], "done a", "a : wants b"), [])
        put = self.fetches(rows + ["made b fail x"], {}, [entry], ["a"], "done b done a", "a : wants b", "b : fails x")
        self.assertEqual(put, ["fails x 0 fail x"])
        put = self.fetches(rows + ["made b want put 'z say put 1"], {}, [entry], ["a"], "done b done a", "a : wants b",
                           "b : wants z")
        self.assertEqual(put, [])
        rows = ["told b 1", "made a " + self.TWO, "made c fail x"]
        entries = [things.entry(self.TWO, "b 1 c () : made (1,())"), things.entry("fail x", ": fails x")]
        self.fetches(rows, {}, entries, ["a"], "fetched c done a", "a b 1 : wants c", "c : fails x")
        self.fetches(rows[:2], {}, entries, ["a"], "done a", "a b 1 : wants c")

    def test_a_name_that_goes_round(self):
        loop = "want put 'a say got 0"
        entry = things.entry(loop, "a 5 : made 5")
        self.assertEqual(self.fetches(["made a " + loop], {}, [entry], ["a"], "done a", "a : wants a"), [])
        rows = ["made a " + self.ONE, "made b " + loop]
        entries = [entry, things.entry(self.ONE, "b 5 : made 5")]
        for some in (entries, entries[:1], entries[1:]):
            self.assertEqual(self.fetches(rows, {}, some, ["a"], "done b done a", "a : wants b", "b : wants a"), [])
            self.assertEqual(self.fetches(rows, {}, some, ["b"], "done a done b", "a : wants b", "b : wants a"), [])
        rows = ["told t 1", "made a want put 't want put 'b say put 1", "made b " + loop]
        some = [things.entry(rows[1][7:], "t 1 b 1 : made 1"), entry]
        self.fetches(rows, {}, some, ["a", "b"], "done b done a", "a t 1 : wants b", "b : wants a")
        self.fetches(rows, {}, some, ["b", "a"], "done a done b", "a t 1 : wants b", "b : wants a")

    def test_none_behind_some_reads(self):
        """Then the recipe is done from its beginning, and comes to what it comes to."""
        rows = ["told b 1", "told c 2", "made a " + self.TWO]
        line = "a b 1 c 2 : made (1,2)"
        put = ["made (1,2) 2 b 1 c 2 " + self.TWO]
        for had in ("b 1 c 3 : made (1,3)", "b 2 c 2 : made (2,2)", "b 0 c 0 : made (0,0)"):
            self.assertEqual(self.fetches(rows, {}, [things.entry(self.TWO, had)], ["a"], "done a", line), put)
        both = [things.entry(self.TWO, "b 1 c 3 : made (1,3)"), things.entry(self.TWO, "b 2 c 2 : made (2,2)")]
        self.assertEqual(self.fetches(rows, {}, both, ["a"], "done a", line), put)
        self.fetches(rows, {}, both + [things.entry(self.TWO, "b 1 c 2 : made (1,2)")], ["a"], "fetched a", line)

    def test_none_behind_reads_of_made_things(self):
        rows = ["made b say put 1", "made c say put 2", "made d say put 3",
                "made a want put 'b want put 'c want put 'd say got 2"]
        entries = [things.entry(rows[3][7:], "b 1 c 5 d 3 : made 3")]
        lines = ("a b 1 c 2 d 3 : made 3", "b : made 1", "c : made 2", "d : made 3")
        self.fetches(rows, {}, entries, ["a"], "done b done c done d done a", *lines)
        self.fetches(rows, {}, entries, ["d", "a"], "done d done b done c done a", *lines)
        self.fetches(rows[:2] + rows[3:], {}, entries, ["a"], "done b done c done a", "a b 1 c 2 : wants d",
                     *lines[1:3])

    def test_another_way_of_the_recipe(self):
        text = "want put 't when got 0 want put 'b say got 1 want put 'c fail x"
        rows = ["made a " + text, "made b say put 5", "made c say put 6"]
        entries = [things.entry(text, "t 1 b 5 : made 5"), things.entry(text, "t 0 c 6 : fails x")]
        self.fetches(rows + ["told t 1"], {}, entries, ["a"], "done b fetched a", "a t 1 b 5 : made 5", "b : made 5")
        self.fetches(rows + ["told t 0"], {}, entries, ["a"], "done c fetched a", "a t 0 c 6 : fails x", "c : made 6")
        self.fetches(rows + ["told t 2"], {}, entries, ["a"], "done b done a", "a t 2 b 5 : made 5", "b : made 5")
        self.fetches(rows, {}, entries, ["a"], "done a", "a : wants t")

    def test_what_was_done_ahead_is_fetched(self):
        """Also where the shelf told a name ahead, and where a held line was looked through."""
        rows = ["told n 1", "made a want put 'c say got 0", "made b want put 'c say got 0",
                "made c want put 'n say got 0"]
        lines = ("a c 1 : made 1", "b c 1 : made 1", "c n 1 : made 1")
        put = ["made 1 1 n 1 want put 'n say got 0", "made 1 1 c 1 want put 'c say got 0"]
        entry = things.entry("want put 'c say got 0", "c 2 : made 2")
        for held in ({}, self.held(rows, "a c 2 : made 2"), self.held(rows, "b c 2 : made 2", "a : wants c")):
            self.assertEqual(self.fetches(rows, held, [], ["b", "a"], "done c done b fetched a", *lines), put)
            self.assertEqual(self.fetches(rows, held, [entry], ["b", "a"], "done c done b fetched a", *lines), put)
            self.assertEqual(self.fetches(rows, held, [], ["a", "b"], "done c done a fetched b", *lines), put)

    def test_names_twice_told_lacking_none(self):
        rows = ["told t 5", "made a want put 't say got 0", "made b say put 1"]
        entries = [things.entry("want put 't say got 0", "t 5 : made 5")]
        self.fetches(rows, {}, entries, [], "")
        self.fetches(rows, {}, entries, ["t", "z", "t", "", "no name"], "")
        self.fetches(rows, {}, entries, ["z", "a", "t", "a", "b", "a", "b"], "fetched a done b", "a t 5 : made 5",
                     "b : made 1")
        self.fetches([], {}, entries, ["a"], "")

    def test_entries_that_nobody_asks_for_change_nothing(self):
        rows = ["told t 5", "made a want put 't say got 0"]
        entries = [things.entry("want put 't say put 1", "t 5 : made 1"), things.entry("say put 1", ": made 1")]
        put = self.fetches(rows, {}, entries, ["a"], "done a", "a t 5 : made 5")
        self.assertEqual(put, ["made 5 1 t 5 want put 't say got 0"])

    def test_recipes_with_peeks_are_done(self):
        rows = ["told t 5", "told b 1", "made a peek put 't want put 'b say got 0", "made c want put 'b say got 0"]
        entries = [things.entry("want put 'b say got 0", "b 1 : made 1"),
                   things.entry("want put 't say got 0", "t 5 : made 5")]
        put = self.fetches(rows, {}, entries, ["a", "c", "a"], "done a fetched c", "a b 1 : made 5", "c b 1 : made 1")
        self.assertEqual(put, [])
        rows = ["made a peek put 'c say got 0", "made c say put 1"]
        put = self.fetches(rows, {}, [things.entry("say put 1", ": made 1")], ["a"], "fetched c done a", "a : made 1",
                           "c : made 1")
        self.assertEqual(put, [])

    def test_forty_in_a_row(self):
        names = things.names(40)
        rows = [f"made {one} want put '{other} say got 0" for one, other in zip(names, names[1:])]
        book = read_book(rows + [f"told {names[-1]} 3"])
        shelf = Shelf()
        told = self.fetched(book, {}, shelf, names[:1])
        self.assertEqual(told[1], [("done", name) for name in names[-2::-1]])
        again = self.fetched(book, {}, shelf, names[:1])
        self.assertEqual(again, (told[0], [("fetched", name) for name in names[-2::-1]]))
        self.assertEqual(len(shelf.entries()), 39)


class Held(Fetching):
    """Held lines are looked through ahead of the shelf."""

    def test_what_stands_is_kept_and_not_fetched(self):
        rows = ["told t 5", "made a want put 't say got 0"]
        entry = things.entry("want put 't say got 0", "t 5 : made 5")
        self.assertEqual(self.fetches(rows, self.held(rows, "a t 5 : made 5"), [entry], ["a"], "kept a"), [])
        self.fetches(rows, self.held(rows, "a t 6 : made 6"), [entry], ["a"], "fetched a", "a t 5 : made 5")
        self.fetches(rows, self.held(rows, "a : wants t"), [entry], ["a"], "fetched a", "a t 5 : made 5")
        held = {"a": ("say put 5", things.line_by("a : made 5"))}
        self.fetches(rows, held, [entry], ["a"], "fetched a", "a t 5 : made 5")

    def test_kept_done_and_fetched(self):
        rows = ["told t 5", "made a want put 't say got 0", "made b want put 'a say got 0",
                "made c want put 'b say got 0", "made d want put 'c want put 'e say got 0",
                "made e want put 'z say put 1"]
        held = self.held(rows, "a t 5 : made 5", "d c 5 : wants e", "e : wants z")
        entries = [things.entry("want put 'a say got 0", "a 5 : made 5"),
                   things.entry("want put 't say got 0", "t 5 : made 5")]
        put = self.fetches(rows, held, entries, ["d"], "kept a fetched b done c kept e kept d", "b a 5 : made 5",
                           "c b 5 : made 5")
        self.assertEqual(put, ["made 5 1 b 5 want put 'b say got 0"])

    def test_up_to_the_first_read_that_is_otherwise_and_then_the_shelf(self):
        text = "want put 't when got 0 want put 'b say got 1 want put 'c say got 1"
        rows = ["told t 0", "made a " + text, "made b say put 5", "made c say put 6"]
        held = self.held(rows, "a t 1 b 5 : made 5")
        entries = [things.entry(text, "t 0 c 6 : made 6")]
        self.fetches(rows, held, entries, ["a"], "done c fetched a", "a t 0 c 6 : made 6", "c : made 6")
        rows = ["made t want put 'n say got 0", "told n 0"] + rows[1:]
        held = self.held(rows, "a t 1 b 5 : made 5", "t n 1 : made 1")
        entries.append(things.entry("want put 'n say got 0", "n 0 : made 0"))
        self.fetches(rows, held, entries, ["a"], "fetched t done c fetched a", "a t 0 c 6 : made 6", "c : made 6",
                     "t n 0 : made 0")

    def test_one_whose_wanted_thing_is_made_now(self):
        text = "want put 'b say got 0"
        rows = ["made a " + text, "made b say put 5"]
        entries = [things.entry(text, "b 5 : made 5")]
        self.fetches(rows, self.held(rows, "a : wants b"), entries, ["a"], "done b fetched a", "a b 5 : made 5",
                     "b : made 5")
        rows = ["made a " + text, "made b fail x"]
        self.fetches(rows, self.held(rows, "a : wants b"), entries, ["a"], "done b kept a", "b : fails x")

    def test_lines_of_recipes_that_peek(self):
        rows = ["told t 1", "told s 2", "made a want put 't peek put 's say got 1"]
        self.fetches(rows, self.held(rows, "a t 1 : made 9"), [], ["a"], "kept a")
        put = self.fetches(rows, self.held(rows, "a t 2 : made 9"), [], ["a"], "done a", "a t 1 : made 2")
        self.assertEqual(put, [])

    def test_names_that_are_not_brought(self):
        rows = ["told t 1", "made a want put 't say got 0", "made b want put 'z say put 1"]
        held = self.held(rows, "a t 7 : made 7", "b z 3 : made 1")
        held["t"] = ("say put 8", things.line_by("t : made 8"))
        entries = [things.entry("want put 't say got 0", "t 1 : made 1")]
        self.fetches(rows, held, entries, ["t", "z"], "")
        self.fetches(rows, held, entries, ["a"], "fetched a", "a t 1 : made 1")


class Beyond(unittest.TestCase):
    """What lies somewhat beyond the bounds is not refused; what is then no entry is not put."""

    def test_a_recipe_of_more_than_sixty(self):
        recipe = ("want", ("put", "t"), ("when", things.expr_of(60), ("say", ("got", 0)), ("fail", "x")))
        book = ({"t": 1}, {"a": recipe, "b": ("say", ("put", 1)), "c": recipe})
        shelf = Shelf()
        told = bring_by(book, {}, shelf, ["a", "b", "c"])
        self.assertEqual(told, bring(book, {}, ["a", "b", "c"]))
        self.assertEqual(written(shelf), ["made 1 0 say put 1"])

    def test_more_than_forty_names(self):
        names = things.names(48)
        book = ({"t": 1}, {name: ("want", ("put", "t"), ("say", ("put", at))) for at, name in enumerate(names)})
        shelf = Shelf()
        self.assertEqual(bring_by(book, {}, shelf, names), bring(book, {}, names))
        self.assertEqual(len(shelf.entries()), 48)
        self.assertEqual(bring_by(book, {}, shelf, names)[1], [("fetched", name) for name in names])


class Own(Fetching):
    """What is told is the asker's own, and what is handed in stays as it was but for the shelf (2)."""

    def test_what_is_told(self):
        book = read_book(["told t 1", "made a want put 't say got 0", "made b say put 1"])
        held = things.held_by(book, "b : made 1")
        shelf = Shelf()
        kept = copy.deepcopy((book, held))
        told = bring_by(book, held, shelf, ["a", "b"])
        shown = repr(told)
        self.assertEqual((book, held), kept)
        entries = shelf.entries()
        again = bring_by(book, held, shelf_of(entries[:0]), ["a", "b"])
        told[0].clear()
        told[1].clear()
        self.assertEqual((book, held), kept)
        self.assertEqual(shelf.entries(), entries)
        book[0].clear()
        book[1].clear()
        held.clear()
        shelf.put(things.entry("fail x", ": fails x"))
        self.assertEqual(repr(again), shown)

    def test_what_was_held_and_nothing_is_done(self):
        held = things.held_by(read_book(["made b say put 1"]), "b : made 1")
        told = bring_by(({}, {}), held, Shelf(), [])
        told[0].clear()
        self.assertEqual(len(held), 1)

    def test_bring_asks_no_shelf(self):
        rows = ["told t 5", "made a want put 't say got 0", "made b want put 't say got 0"]
        book = read_book(rows)
        bring_by(book, {}, Shelf(), ["a"])
        self.assertEqual(bring(book, {}, ["a", "b"])[1], [("done", "a"), ("done", "b")])
        self.assertEqual(bring_by(book, {}, Shelf(), ["b"])[1], [("done", "b")])


class Honest(Fetching):
    """Of many honest books, with held lines of elder ones and shelves of any honest entries (5, 79)."""

    def books(self, seed, many):
        source = things.source(seed)
        for _ in range(many):
            book, held = things.elder(source, things.HONEST)
            yield source, book, held, things.asked_names(source, book)

    def test_as_bring_tells_it_but_that_some_done_are_fetched(self):
        seen = {"kept": 0, "done": 0, "fetched": 0}
        for source, book, held, names in self.books(79, 900):
            shelf = shelf_of(things.entries(source, book))
            told, log = self.fetched(book, held, shelf, names)
            wanted, rows = bring(book, held, names)
            self.assertEqual(told, wanted)
            self.assertEqual([(word if word != "fetched" else "done", name) for word, name in log], rows)
            for word, name in log:
                seen[word] += 1
                self.assertEqual(told[name], (show_recipe(book[1][name]), line_of(book, name)))
                self.assertEqual(word == "kept", stands(book, held, name))
                if word == "fetched":
                    self.assertNotEqual(told[name][1][2][0], "wants")
        self.assertGreater(min(seen.values()), 200, seen)

    def test_then_again_by_that_shelf(self):
        seen = {"done": 0, "fetched": 0}
        for source, book, held, names in self.books(80, 500):
            shelf = shelf_of(things.entries(source, book))
            told, log = self.fetched(book, {}, shelf, names)
            for other in (shelf, shelf_by(written(shelf))):
                entries = other.entries()
                again, rows = self.fetched(book, {}, other, names)
                self.assertEqual(again, told)
                self.assertEqual([name for _, name in rows], [name for _, name in log])
                for word, name in rows:
                    self.assertEqual(word, "done" if again[name][1][2][0] == "wants" else "fetched")
                    seen[word] += 1
                self.assertEqual(other.entries(), entries)
        self.assertGreater(min(seen.values()), 500, seen)

    def test_by_the_shelf_of_whoever_filled_it(self):
        """By shelves of other books, merged, read again: the same lines."""
        source = things.source(81)
        seen = 0
        for _ in range(120):
            book, held, shelf = things.busy(source, things.HONEST), {}, Shelf()
            for _ in range(6):
                names = things.asked_names(source, book)
                wanted, rows = bring(book, held, names)
                told, log = self.fetched(book, held, shelf, names)
                self.assertEqual(told, wanted)
                self.assertEqual([name for _, name in log], [name for _, name in rows])
                seen += len([word for word, _ in log if word == "fetched"])
                held = source.choice([told, told, held, {}])
                other = shelf_of(things.entries(source, book))
                shelf = source.choice([shelf, merged(shelf, other), merged(other, shelf), shelf_by(written(shelf))])
                book = source.choice([things.changed, things.turned])(source, book, things.HONEST)
        self.assertGreater(seen, 200)

    def test_they_make_a_paper(self):
        for source, book, held, names in self.books(82, 300):
            told, log = bring_by(book, held, shelf_of(things.entries(source, book)), names)
            paper = [told[name][1] for _, name in log]
            self.assertIs(lets_by(book, paper), True)
            for line in paper:
                self.assertEqual(result_by(paper, line[0]), fresh(book, line[0]))

    def test_each_entry_that_was_put_is_of_what_was_done(self):
        seen = 0
        for source, book, held, names in self.books(83, 300):
            ahead = things.entries(source, book)
            shelf = shelf_of(ahead)
            told, log = bring_by(book, held, shelf, names)
            done = [told[name] for word, name in log if word == "done"]
            put = [(text,) + line[1:] for text, line in done if line[2][0] != "wants"]
            self.assertEqual(shelf.entries(), list(dict.fromkeys(ahead + put)))
            seen += len(put)
        self.assertGreater(seen, 100)

    def test_whatever_the_order_of_things_in_the_book(self):
        for source, book, held, names in self.books(84, 200):
            entries = things.entries(source, book)
            one, other = shelf_of(entries), shelf_of(entries)
            told = bring_by(book, held, one, names)
            self.assertEqual(bring_by(things.shuffled(source, book), held, other, names), told)
            self.assertEqual(one.entries(), other.entries())


class WithPeeks(Fetching):
    def test_drawn_books(self):
        """As a plain reading tells it; recipes with a peek are never fetched nor put."""
        source = things.source(85)
        seen = {"kept": 0, "done": 0, "fetched": 0}
        for _ in range(600):
            book, held = things.elder(source)
            shelf = shelf_of(things.entries(source, book))
            told, log = self.fetched(book, held, shelf, things.asked_names(source, book))
            for word, name in log:
                seen[word] += 1
                if not plain.is_honest(book[1][name]):
                    self.assertNotEqual(word, "fetched")
            for text, _, _ in shelf.entries():
                self.assertNotIn("peek", text)
        self.assertGreater(min(seen.values()), 150, seen)


if __name__ == "__main__":
    unittest.main()
