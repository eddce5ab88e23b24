"""Points 54 to 56 and 62, and of 5: what is brought, kept and done, and what would be done."""

import copy
import unittest

import plain
import things
from redo.bringing import bring, would_do
from redo.booktexts import read_book
from redo.checker import lets_by
from redo.held import is_held, paper_in, stands
from redo.making import fresh, line_of
from redo.papers import result_by
from redo.recipetexts import show_recipe


class Bringing(unittest.TestCase):
    def brought(self, book, held, names):
        """What is told: of the kinds promised, what is handed in as it was, and as a plain reading tells it."""
        self.assertIs(is_held(held), True)
        given = repr((book, held, names))
        told = bring(book, held, names)
        self.assertEqual(repr((book, held, names)), given)
        self.assertEqual([type(told), type(told[0]), type(told[1])], [tuple, dict, list])
        self.assertEqual(len(told), 2)
        self.assertIs(is_held(told[0]), True)
        wanted = plain.brought(book, held, names)
        self.assertEqual(told, wanted)
        self.assertEqual(repr((sorted(told[0].items()), told[1])), repr((sorted(wanted[0].items()), wanted[1])))
        return told

    def brings(self, rows, held, names, log, *lines):
        """Behind it these lines are held in the place of elder ones; log: words such as "kept a done b"."""
        with self.subTest(rows=rows, held=held, names=names):
            book = read_book(rows)
            for same in (book, read_book(rows[::-1])):
                told = self.brought(same, held, names)
                words = log.split()
                self.assertEqual(told[1], list(zip(words[::2], words[1::2])))
                self.assertEqual(told[0], dict(held, **things.held_by(book, *lines)))
                done = [name for word, name in told[1] if word == "done"]
                self.assertEqual(sorted(done), sorted([things.line_by(line)[0] for line in lines]))

    def held(self, rows, *lines):
        return things.held_by(read_book(rows), *lines)


class Done(Bringing):
    """Nothing is held: what is brought is done."""

    def test_no_names(self):
        self.brings([], {}, [], "")
        self.brings(["told a 1", "made b say put 1"], {}, [], "")

    def test_told_and_lacking_names(self):
        rows = ["told a 1", "made b say put 1"]
        self.brings([], {}, ["a"], "")
        self.brings(rows, {}, ["a"], "")
        self.brings(rows, {}, ["z"], "")
        self.brings(rows, {}, ["a", "z", "a", "z", "", "B", "no name at all"], "")
        self.brings(rows, {}, ["z", "b", "a"], "done b", "b : made 1")

    def test_names_twice(self):
        self.brings(["made b say put 1"], {}, ["b", "b"], "done b", "b : made 1")
        self.brings(["made b say put 1", "made a fail x"], {}, ["b", "a", "a", "b", "b"], "done b done a",
                    "b : made 1", "a : fails x")
        self.brings(["made b say put 1"], {}, ["b"] * 40, "done b", "b : made 1")

    def test_what_was_wanted_ahead_is_not_brought_again(self):
        rows = ["made a want put 'b say got 0", "made b say put 1"]
        for names in (["a"], ["a", "b"], ["a", "b", "a"]):
            self.brings(rows, {}, names, "done b done a", "a b 1 : made 1", "b : made 1")
        self.brings(rows, {}, ["b", "a"], "done b done a", "a b 1 : made 1", "b : made 1")

    def test_the_ends(self):
        self.brings(["made a say row 2 put 1 put 'x"], {}, ["a"], "done a", "a : made (1,'x)")
        self.brings(["made a fail sour"], {}, ["a"], "done a", "a : fails sour")
        self.brings(["made a say many put 1"], {}, ["a"], "done a", "a : fails kind")
        self.brings(["made a want put 7 say put 1"], {}, ["a"], "done a", "a : fails name")
        self.brings(["made a peek put '-b say put 1"], {}, ["a"], "done a", "a : fails name")
        self.brings(["made a want put 'z say put 1"], {}, ["a"], "done a", "a : wants z")
        self.brings(["told t 1", "made a want put 't want put 't want put 'z say put 1"], {}, ["a"], "done a",
                    "a t 1 t 1 : wants z")
        self.brings(["told t 1", "made a want put 't fail b", "made b say put 1"], {}, ["a"], "done a",
                    "a t 1 : fails b")

    def test_wants_are_brought_as_they_come(self):
        rows = ["made a want put 'c want put 'b say row 2 got 0 got 1", "made b want put 'd say got 0",
                "made c say put 1", "made d say put 2", "made e say put 3"]
        self.brings(rows, {}, ["a"], "done c done d done b done a",
                    "a c 1 b 2 : made (1,2)", "b d 2 : made 2", "c : made 1", "d : made 2")
        self.brings(rows, {}, ["d", "a"], "done d done c done b done a",
                    "a c 1 b 2 : made (1,2)", "b d 2 : made 2", "c : made 1", "d : made 2")

    def test_the_next_want_hangs_on_what_was_got(self):
        rows = ["made a want put 's when got 0 want put 'b say got 1 want put 'c say got 1",
                "made b say put 5", "made c say put 6"]
        self.brings(rows + ["told s 1"], {}, ["a"], "done b done a", "a s 1 b 5 : made 5", "b : made 5")
        self.brings(rows + ["told s 0"], {}, ["a"], "done c done a", "a s 0 c 6 : made 6", "c : made 6")
        rows = ["made a want put 'n want got 0 say got 1", "made b say put 5", "made n say put 'b"]
        self.brings(rows, {}, ["a"], "done n done b done a", "a n 'b b 5 : made 5", "b : made 5", "n : made 'b")

    def test_nothing_is_brought_behind_a_want_that_is_not_made(self):
        for row in ("made b fail x", "made b want put 'z say put 1", "made b want put 'b say put 1"):
            end = "b : fails x" if "fail" in row else "b : wants z" if "'z" in row else "b : wants b"
            self.brings(["made a want put 'b want put 'c say put 1", "made c say put 1", row], {}, ["a"],
                        "done b done a", "a : wants b", end)
        self.brings(["made a want put 'z want put 'c say put 1", "made c say put 1"], {}, ["a"], "done a",
                    "a : wants z")

    def test_a_want_again(self):
        self.brings(["made a want put 'b want put 'b say sum got 0 got 1", "made b say put 2"], {}, ["a"],
                    "done b done a", "a b 2 b 2 : made 4", "b : made 2")

    def test_peeks_are_brought_but_stand_in_no_line(self):
        rows = ["made a peek put 'c want put 'b peek put 'b say row 3 got 0 got 1 got 2", "made b say put 1",
                "made c say put 2"]
        self.brings(rows, {}, ["a"], "done c done b done a", "a b 1 : made (2,1,1)", "b : made 1", "c : made 2")
        self.brings(["made a want put 't peek put 'b say put 1", "told t 3", "made b fail x"], {}, ["a"],
                    "done b done a", "a t 3 : wants b", "b : fails x")
        self.brings(["made a peek put 'z say put 1"], {}, ["a"], "done a", "a : wants z")

    def test_a_thing_that_wants_itself(self):
        for word in ("want", "peek"):
            self.brings([f"made a {word} put 'a say put 1"], {}, ["a", "a"], "done a", "a : wants a")
            self.brings([f"made a want put 't {word} put 'a say put 1", "told t 1"], {}, ["a"], "done a",
                        "a t 1 : wants a")

    def test_a_ring(self):
        rows = ["made a want put 'b say put 1", "made b want put 'c say put 1", "made c want put 'a say put 1"]
        lines = ("a : wants b", "b : wants c", "c : wants a")
        self.brings(rows, {}, ["a"], "done c done b done a", *lines)
        self.brings(rows, {}, ["b"], "done a done c done b", *lines)
        self.brings(rows, {}, ["c", "b", "a"], "done b done a done c", *lines)
        rows = ["made a want put 'b say put 1", "made b peek put 'a say put 1"]
        self.brings(rows, {}, ["a"], "done b done a", "a : wants b", "b : wants a")
        self.brings(rows, {}, ["b"], "done a done b", "a : wants b", "b : wants a")

    def test_a_ring_that_one_way_has_alone(self):
        rows = ["made a want put 't when got 0 want put 'b say put 1 say put 2", "made b want put 'a say got 0"]
        self.brings(rows + ["told t 0"], {}, ["b"], "done a done b", "a t 0 : made 2", "b a 2 : made 2")
        self.brings(rows + ["told t 0"], {}, ["a"], "done a", "a t 0 : made 2")
        self.brings(rows + ["told t 1"], {}, ["b"], "done a done b", "a t 1 : wants b", "b : wants a")

    def test_what_leads_into_a_ring(self):
        rows = ["made a want put 'b say put 1", "made b want put 'c say put 1", "made c want put 'b say put 1"]
        lines = ("a : wants b", "b : wants c", "c : wants b")
        self.brings(rows, {}, ["a"], "done c done b done a", *lines)
        self.brings(rows, {}, ["c", "a"], "done b done c done a", *lines)

    def test_rows_of_forty_and_more(self):
        for many in (40, 48):
            names = things.names(many)
            rows = [f"made {one} want put '{other} say got 0" for one, other in zip(names, names[1:])]
            book = book_of_rows(rows + [f"made {names[-1]} say put 3"])
            told = bring(book, {}, names[:1])
            self.assertEqual(told[1], [("done", name) for name in names[::-1]])
            self.assertEqual(told[0][names[0]][1], (names[0], ((names[1], "3"),), ("made", "3")))
            again = bring(book, told[0], names[:1])
            self.assertEqual(again, (told[0], [("kept", name) for name in names[::-1]]))
            ring = book_of_rows(rows + [f"made {names[-1]} want put '{names[0]} say put 3"])
            told = bring(ring, told[0], names[:1])
            self.assertEqual(told[1], [("done", name) for name in names[::-1]])
            self.assertEqual(told[0][names[0]][1], (names[0], (), ("wants", names[1])))

    def test_twelve_wants(self):
        text = "want put 'b " * 12 + "say got 11"
        self.brings([f"made a {text}", "made b say put 1"], {}, ["a"], "done b done a",
                    "a" + " b 1" * 12 + " : made 1", "b : made 1")


def book_of_rows(rows):
    """A book of rows, more than forty too."""
    found = {}
    for row in rows:
        found.update(read_book([row])[1])
    return ({}, found)


class Kept(Bringing):
    """What is held with the text of the book's recipe is looked through."""

    def test_all_as_it_was(self):
        rows = ["told t 1", "made a want put 't want put 'b say put 5", "made b say put 2"]
        held = self.held(rows, "a t 1 b 2 : made 5", "b : made 2")
        self.brings(rows, held, ["a"], "kept b kept a")
        self.brings(rows, held, ["b", "a", "b"], "kept b kept a")
        self.brings(rows, held, ["b"], "kept b")
        self.brings(rows, held, ["t", "z"], "")

    def test_each_kind_of_end(self):
        rows = ["told t 1", "made a want put 't fail x", "made b fail y", "made c want put 'b say put 1",
                "made d want put 'z say put 1", "made e say put (1,'x)"]
        held = self.held(rows, "a t 1 : fails x", "b : fails y", "c : wants b", "d : wants z", "e : made (1,'x)")
        self.brings(rows, held, list("abcde"), "kept a kept b kept c kept d kept e")
        self.brings(rows, held, ["c"], "kept b kept c")

    def test_what_is_read_is_done_and_comes_to_the_same(self):
        """So the reader is kept."""
        rows = ["told t 5", "made a want put 'b say got 0", "made b want put 't say less got 0 put 10"]
        held = self.held(rows, "a b 1 : made 1", "b t 7 : made 1")
        self.brings(rows, held, ["a"], "done b kept a", "b t 5 : made 1")
        held = self.held(rows, "a b 1 : made 1")
        self.brings(rows, held, ["a"], "done b kept a", "b t 5 : made 1")
        held["b"] = ("say put 1", things.line_by("b : made 1"))
        self.brings(rows, held, ["a"], "done b kept a", "b t 5 : made 1")

    def test_up_to_the_first_read_that_is_otherwise(self):
        rows = ["told t 5", "made a want put 't when same got 0 put 1 want put 'b want put 'c say put 1 say put 0",
                "made b say put 2", "made c say put 3"]
        held = self.held(rows, "a t 1 b 2 c 3 : made 1")
        self.brings(rows, held, ["a"], "done a", "a t 5 : made 0")
        rows[0] = "told t 1"
        self.brings(rows, held, ["a"], "done b done c kept a", "b : made 2", "c : made 3")
        rows[2] = "made b say put 9"
        self.brings(rows, held, ["a"], "done b done c done a", "a t 1 b 9 c 3 : made 1", "b : made 9", "c : made 3")

    def test_that_one_is_brought_too(self):
        rows = ["made a want put 'b when same got 0 put 1 want put 'c say put 1 say put 0", "made b say put 2",
                "made c say put 3"]
        held = self.held(rows, "a b 1 c 3 : made 1", "c : made 3")
        self.brings(rows, held, ["a"], "done b done a", "a b 2 : made 0", "b : made 2")

    def test_what_is_not_made_any_more(self):
        for row, line in (("made b fail x", "b : fails x"), ("made b want put 'z say put 1", "b : wants z"),
                          ("made b want put 'a fail x", "b : wants a"), ("made b want put 'b fail x", "b : wants b")):
            rows = ["made a want put 'b want put 'c say put 1", "made c say put 1", row]
            self.brings(rows, self.held(rows, "a b 1 c 1 : made 1"), ["a"], "done b done a", "a : wants b", line)
        rows = ["made a want put 'b want put 'c say put 1", "made c say put 1"]
        self.brings(rows, self.held(rows, "a b 1 c 1 : made 1"), ["a"], "done a", "a : wants b")

    def test_what_was_made_is_told_now(self):
        rows = ["made a want put 'b say got 0", "told b 1"]
        held = self.held(rows, "a b 1 : made 1")
        held["b"] = ("say put 1", things.line_by("b : made 1"))
        self.brings(rows, held, ["a", "b"], "kept a")
        rows = ["made a want put 'b say got 0", "told b 2"]
        self.brings(rows, held, ["a", "b"], "done a", "a b 2 : made 2")

    def test_what_was_told_is_made_now(self):
        rows = ["made a want put 'b say got 0", "made b say put 1"]
        held = self.held(rows, "a b 1 : made 1")
        self.brings(rows, held, ["a"], "done b kept a", "b : made 1")
        rows = ["made a want put 'b say got 0", "made b say put 2"]
        self.brings(rows, held, ["a"], "done b done a", "a b 2 : made 2", "b : made 2")

    def test_one_whose_wanted_thing_is_made_now(self):
        rows = ["told t 1", "made a want put 't want put 'b say got 1"]
        held = self.held(rows, "a t 1 : wants b")
        self.brings(rows, held, ["a"], "kept a")
        self.brings(rows + ["told b 4"], held, ["a"], "done a", "a t 1 b 4 : made 4")
        self.brings(rows + ["made b say put 4"], held, ["a"], "done b done a", "a t 1 b 4 : made 4", "b : made 4")
        self.brings(rows + ["made b fail x"], held, ["a"], "done b kept a", "b : fails x")
        self.brings(rows + ["made b want put 'a say put 1"], held, ["a"], "done b kept a", "b : wants a")
        rows[0] = "told t 2"
        self.brings(rows + ["made b fail x"], held, ["a"], "done b done a", "a t 2 : wants b", "b : fails x")

    def test_the_wanted_thing_is_brought_where_all_is_as_read_alone(self):
        rows = ["told t 2", "made a want put 't when same got 0 put 1 want put 'b say put 1 say put 0",
                "made b fail x"]
        self.brings(rows, self.held(rows, "a t 1 : wants b"), ["a"], "done a", "a t 2 : made 0")
        rows[0] = "told t 1"
        self.brings(rows, self.held(rows, "a t 1 : wants b"), ["a"], "done b kept a", "b : fails x")

    def test_a_failing_s_word_is_no_thing_that_is_wanted(self):
        rows = ["made a fail b", "made b say put 1"]
        self.brings(rows, self.held(rows, "a : fails b"), ["a"], "kept a")

    def test_a_line_of_another_recipe_s_text(self):
        rows = ["made a want put 'b say got 0", "made b say put 1"]
        line = things.line_by("a b 1 : made 1")
        for text in ("want put 'b say put 1", "want put 'b when put 0 fail x say got 0"):
            held = {"a": (text, line)}
            self.brings(rows, held, ["a"], "done b done a", "a b 1 : made 1", "b : made 1")
        held = {"a": ("want put 'c say got 0", things.line_by("a c 1 : made 1"))}
        self.brings(rows + ["made c say put 1"], held, ["a"], "done b done a", "a b 1 : made 1", "b : made 1")

    def test_rings_that_are_held(self):
        rows = ["told t 1", "made a want put 't want put 'b say put 1", "made b want put 'a say put 1"]
        held = self.held(rows, "a t 1 : wants b", "b : wants a")
        self.brings(rows, held, ["a"], "kept b kept a")
        self.brings(rows, held, ["b"], "kept a kept b")
        self.brings(rows, self.held(rows, "b : wants a"), ["a"], "kept b done a", "a t 1 : wants b")
        self.brings(rows, self.held(rows, "b : wants a"), ["b"], "done a kept b", "a t 1 : wants b")
        self.brings(rows, self.held(rows, "a t 2 : wants b", "b : wants a"), ["b"], "done a kept b", "a t 1 : wants b")
        rows = ["made a want put 'a say put 1"]
        self.brings(rows, self.held(rows, "a : wants a"), ["a"], "kept a")

    def test_a_ring_that_came_to_be(self):
        rows = ["made a want put 'b say put 1", "made b want put 'a say put 1"]
        held = self.held(rows, "a b 3 : made 1")
        self.brings(rows, held, ["a"], "done b done a", "a : wants b", "b : wants a")
        self.brings(rows, held, ["b"], "done a done b", "a : wants b", "b : wants a")
        held = self.held(rows, "a b 3 : made 1", "b a 1 : made 1")
        self.brings(rows, held, ["a"], "done b done a", "a : wants b", "b : wants a")
        self.brings(rows, held, ["b"], "done a done b", "a : wants b", "b : wants a")

    def test_a_ring_that_is_no_more(self):
        rows = ["told t 0", "made a want put 't when got 0 want put 'b say put 1 say put 2",
                "made b want put 'a say got 0"]
        held = self.held(rows, "a t 1 : wants b", "b : wants a")
        self.brings(rows, held, ["a"], "done a", "a t 0 : made 2")
        self.brings(rows, held, ["b"], "done a done b", "a t 0 : made 2", "b a 2 : made 2")

    def test_lines_of_recipes_that_peek_are_kept_by_their_reads(self):
        rows = ["told t 1", "made a want put 't peek put 'b say got 1", "made b say put 3"]
        for end in ("made 9", "fails y", "wants zz"):
            self.brings(rows, self.held(rows, "a t 1 : " + end), ["a"], "kept a")
        self.brings(rows, self.held(rows, "a t 2 : made 9"), ["a"], "done b done a", "a t 1 : made 3", "b : made 3")
        self.brings(rows, self.held(rows, "a t 1 : wants b"), ["a"], "done b done a", "a t 1 : made 3", "b : made 3")
        rows.append("made c want put 'a say got 0")
        self.brings(rows, self.held(rows, "a t 1 : made (9)"), ["c"], "kept a done c", "c a (9) : made (9)")

    def test_one_under_way_is_not_made_though_it_comes_to_be(self):
        """By a line of a recipe that peeks: what it read elder things for may want the one that is under way."""
        rows = ["told t 0", "made a peek put 't when got 0 want put 'b say put 1 say put 2",
                "made b want put 'a say got 0"]
        self.brings(rows, self.held(rows, "a b 1 : made 1"), ["a"], "done b done a", "a : made 2", "b : wants a")
        self.brings(rows, self.held(rows, "a b 1 : made 1"), ["b"], "done a done b", "a : made 2", "b a 2 : made 2")

    def test_names_that_are_not_brought_keep_what_is_held_of_them(self):
        rows = ["told t 1", "made a want put 't say got 0", "made b want put 'z say put 1", "made c say put 1"]
        held = self.held(rows, "a t 7 : made 7", "b z 3 : made 1")
        held.update({"t": ("say put 8", things.line_by("t : made 8")), "c": ("fail x", things.line_by("c : fails x")),
                     "z": ("peek put 'z say put 1", things.line_by("z q 1 : wants q"))})
        self.brings(rows, held, [], "")
        self.brings(rows, held, ["t", "z", "q"], "")
        self.brings(rows, held, ["a"], "done a", "a t 1 : made 1")
        self.brings(rows, held, ["c"], "done c", "c : made 1")
        self.brings(rows, held, ["b"], "done b", "b : wants z")


class Own(Bringing):
    """What is told is the asker's own (2)."""

    def test_what_is_told(self):
        book = read_book(["told t 1", "made a want put 't say got 0", "made b say put 1"])
        held = things.held_by(book, "b : made 1")
        kept = copy.deepcopy((book, held))
        told = bring(book, held, ["a", "b"])
        shown = repr(told)
        told[0].clear()
        told[1].clear()
        self.assertEqual((book, held), kept)
        again = bring(book, held, ["a", "b"])
        self.assertEqual(repr(again), shown)
        book[0].clear()
        book[1].clear()
        held.clear()
        self.assertEqual(repr(again), shown)

    def test_what_was_held_and_nothing_is_done(self):
        held = things.held_by(read_book(["made b say put 1"]), "b : made 1")
        told = bring(({}, {}), held, [])
        told[0].clear()
        self.assertEqual(len(held), 1)

    def test_what_would_be_done(self):
        book = read_book(["made a say put 1"])
        told = would_do(book, {}, ["a"])
        told.clear()
        self.assertEqual(would_do(book, {}, ["a"]), ["a"])


class Honest(Bringing):
    """Of many honest books, with held lines of elder ones (5, 56, 62)."""

    def books(self, seed, many):
        source = things.source(seed)
        for _ in range(many):
            book, held = things.elder(source, things.HONEST)
            yield source, book, held, things.asked_names(source, book)

    def wanted_by_good_values(self, book, names):
        """The made names among these, and all that their lines by good values want."""
        lines = {name: plain.line(book, name) for name in book[1]}
        found = plain.reached({name: ("", line) for name, line in lines.items()}, names)
        return [name for name in found if name in lines], lines

    def test_each_brought_name_has_its_line(self):
        seen = {"kept": 0, "done": 0}
        for source, book, held, names in self.books(56, 1200):
            told, log = self.brought(book, held, names)
            brought, lines = self.wanted_by_good_values(book, names)
            self.assertEqual(sorted([name for _, name in log]), brought)
            for word, name in log:
                seen[word] += 1
                self.assertEqual(told[name], (show_recipe(book[1][name]), line_of(book, name)))
                self.assertEqual(told[name][1], lines[name])
                self.assertEqual(word == "kept", stands(book, held, name))
                self.assertIs(stands(book, told, name), True)
            for name in set(held) | set(told):
                if ("done", name) not in log:
                    self.assertEqual(told[name], held[name])
        self.assertGreater(min(seen.values()), 500, seen)

    def test_each_is_settled_behind_what_it_wants(self):
        """Rings apart: but what is read is never in a ring with its reader."""
        for source, book, held, names in self.books(57, 600):
            told, log = bring(book, held, names)
            settled = [name for _, name in log]
            for at, name in enumerate(settled):
                line = told[name][1]
                for read, _ in line[1]:
                    self.assertTrue(read in book[0] or read in settled[:at])
                if line[2][0] == "wants" and line[2][1] in book[1] and fresh(book, name)[0] != "ring":
                    self.assertIn(line[2][1], settled[:at])

    def test_they_make_a_paper(self):
        for source, book, held, names in self.books(58, 600):
            told, log = bring(book, held, names)
            paper = [told[name][1] for _, name in log]
            self.assertIs(lets_by(book, paper), True)
            self.assertIs(lets_by(book, paper_in({name: told[name] for _, name in log}, names)), True)
            for line in paper:
                self.assertEqual(result_by(paper, line[0]), fresh(book, line[0]))

    def test_again_all_is_kept(self):
        for source, book, held, names in self.books(59, 600):
            told, log = bring(book, held, names)
            self.assertEqual(bring(book, told, names), (told, [("kept", name) for _, name in log]))

    def test_whatever_the_order_of_the_names(self):
        seen = 0
        for source, book, held, names in self.books(60, 600):
            told, log = bring(book, held, names)
            for _ in range(3):
                other = source.sample(names, len(names)) + source.choices(names, k=2 if names else 0)
                again, rows = bring(things.shuffled(source, book), held, other)
                self.assertEqual(again, told)
                self.assertEqual(sorted(rows), sorted(log))
                seen += rows != log
        self.assertGreater(seen, 100)

    def test_by_a_row_of_changes(self):
        """Held is what bringing told of the books ahead: of however many changes, only what doesn't stand is done."""
        source = things.source(61)
        kept = 0
        for _ in range(120):
            book, held = things.busy(source, things.HONEST), {}
            for _ in range(8):
                names = things.asked_names(source, book)
                log = bring(book, held, names)[1]
                done = [name for word, name in log if word == "done"]
                self.assertEqual(done, [name for _, name in log if not stands(book, held, name)])
                held = self.brought(book, held, names)[0]
                for _, name in log:
                    self.assertEqual(held[name][1], line_of(book, name))
                kept += len(log) - len(done)
                book = source.choice([things.changed, things.turned])(source, book, things.HONEST)
        self.assertGreater(kept, 200)

    def test_would_do(self):
        seen = 0
        for source, book, held, names in self.books(62, 1200):
            given = repr((book, held, names))
            told = would_do(book, held, names)
            self.assertEqual(repr((book, held, names)), given)
            self.assertIs(type(told), list)
            self.assertEqual(told, [name for word, name in bring(book, held, names)[1] if word == "done"])
            seen += len(told)
        self.assertGreater(seen, 1000)


class WouldDo(Bringing):
    def would(self, rows, held, names, wanted):
        book = read_book(rows)
        for same in (book, read_book(rows[::-1])):
            self.assertEqual(would_do(same, held, names), wanted.split())
        self.assertEqual([name for word, name in self.brought(book, held, names)[1] if word == "done"], wanted.split())

    def test_nothing(self):
        self.would([], {}, [], "")
        self.would(["told t 1", "made a say put 1"], {}, ["t", "z", ""], "")

    def test_in_the_order_of_the_log(self):
        rows = ["made a want put 'c want put 'b say put 1", "made b say put 1", "made c want put 'd say put 1",
                "made d say put 1"]
        self.would(rows, {}, ["a"], "d c b a")
        self.would(rows, {}, ["b", "a", "b"], "b d c a")
        held = self.held(rows, "c d 1 : made 1")
        self.would(rows, held, ["a"], "d b a")
        self.would(rows, self.held(rows, "c d 2 : made 1", "d : made 1"), ["c", "a"], "c b a")

    def test_what_stands_is_not_done(self):
        rows = ["told t 1", "made a want put 't say got 0", "made b want put 'a say got 0"]
        held = self.held(rows, "a t 1 : made 1", "b a 1 : made 1")
        self.would(rows, held, ["b", "a"], "")
        rows[0] = "told t 2"
        self.would(rows, held, ["b"], "a b")
        rows[2] = "made b want put 'a say put 1"
        self.would(rows, held, ["b"], "a b")
        self.would(rows, held, ["a"], "a")

    def test_rings(self):
        rows = ["made a want put 'b say put 1", "made b want put 'a say put 1", "made c want put 'c say put 1"]
        self.would(rows, {}, ["a", "c"], "b a c")
        self.would(rows, {}, ["b"], "a b")
        self.would(rows, self.held(rows, "a : wants b"), ["b"], "b")

    def test_forty(self):
        names = things.names(40)
        rows = [f"made {one} want put '{other} say got 0" for one, other in zip(names, names[1:])]
        rows.append(f"made {names[-1]} say put 1")
        self.would(rows, {}, names, " ".join(names[::-1]))


if __name__ == "__main__":
    unittest.main()
