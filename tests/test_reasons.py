"""Points 57 and 58: why a held line doesn't stand, and the row of causes behind that."""

import unittest

import plain
import things
from redo.booktexts import read_book
from redo.errors import NoThing, RedoError
from redo.held import stands
from redo.reasons import causes, reason_for


class Reasons(unittest.TestCase):
    def tells(self, rows, held, name, wanted):
        """This reason; None just where the line stands."""
        with self.subTest(rows=rows, held=held):
            for book in (read_book(rows), read_book(rows[::-1])):
                given = repr((book, held))
                told = reason_for(book, held, name)
                self.assertEqual(repr((book, held)), given)
                self.assertEqual(told, wanted)
                self.assertEqual(repr(told), repr(wanted))
                self.assertIs(stands(book, held, name), wanted is None)
                self.assertEqual(plain.reason(book, held, name), wanted)

    def held(self, rows, *lines):
        return things.held_by(read_book(rows), *lines)


class Reason(Reasons):
    def test_none(self):
        rows = ["made a say put 1", "made b want put 'a say got 0", "told t 1"]
        self.tells(rows, {}, "a", ("none",))
        self.tells(rows, self.held(rows, "b a 1 : made 1"), "a", ("none",))

    def test_it_stands(self):
        rows = ["told t 1", "made a want put 't say got 0", "made b want put 'a want put 't say put 5",
                "made c want put 't want put 'z say put 1", "made d want put 'c say put 1", "made e fail x"]
        held = self.held(rows, "a t 1 : made 1", "b a 1 t 1 : made 5", "c t 1 : wants z", "d : wants c", "e : fails x")
        for name in "abcde":
            self.tells(rows, held, name, None)

    def test_recipe(self):
        rows = ["told t 1", "made a want put 't say got 0"]
        for text in ("want put 't say put 1", "want put 't when put 0 say put 1 say got 0"):
            self.tells(rows, {"a": (text, things.line_by("a t 1 : made 1"))}, "a", ("recipe",))
        self.tells(rows, {"a": ("say put 1", things.line_by("a : made 1"))}, "a", ("recipe",))
        self.tells(rows, {"a": ("peek put 't say got 0", things.line_by("a t 1 : made 1"))}, "a", ("recipe",))

    def test_read_of_each_kind_of_end(self):
        rows = ["made a want put 'm say got 0"]
        held = self.held(rows, "a m 1 : made 1")
        for row, end in (
            ("told m 2", ("made", "2")), ("told m '1", ("made", "'1")), ("told m (1)", ("made", "(1)")),
            ("made m say put 2", ("made", "2")), ("made m fail sour", ("fails", "sour")),
            ("made m want put 'z say put 1", ("wants", "z")), ("made m want put 'm say put 1", ("wants", "m")),
            ("made m want put 'a say put 1", ("wants", "a")), ("made m peek put 'z say put 1", ("wants", "z")),
        ):
            self.tells(rows + [row], held, "a", ("read", 0, "m", "1", end))
        self.tells(rows, held, "a", ("read", 0, "m", "1", ("lacks",)))
        self.tells(rows + ["told m 1"], held, "a", None)
        self.tells(rows + ["made m say put 1"], held, "a", None)

    def test_the_place_of_the_first_read(self):
        wanted = "want put 'b want put 'c want put 'd "
        rows = [f"made a {wanted}say got 0"]
        held = self.held(rows, "a b 1 c 2 d 3 : made 1")
        self.tells(rows + ["told b 1", "told c 2", "told d 3"], held, "a", None)
        self.tells(rows + ["told b 1", "told c 2", "told d 4"], held, "a", ("read", 2, "d", "3", ("made", "4")))
        self.tells(rows + ["told b 1", "made c fail x", "told d 4"], held, "a", ("read", 1, "c", "2", ("fails", "x")))
        self.tells(rows + ["told c 2", "told d 3"], held, "a", ("read", 0, "b", "1", ("lacks",)))
        self.tells(rows, held, "a", ("read", 0, "b", "1", ("lacks",)))

    def test_one_name_read_twice(self):
        rows = ["made a want put 'b want put 'b say got 0"]
        held = self.held(rows, "a b 1 b 2 : made 1")
        self.tells(rows + ["told b 1"], held, "a", ("read", 1, "b", "2", ("made", "1")))
        self.tells(rows + ["told b 2"], held, "a", ("read", 0, "b", "1", ("made", "2")))

    def test_twelve_reads(self):
        rows = ["made a " + "want put 't " * 11 + "want put 'b say got 0", "told t 1", "told b 2"]
        held = self.held(rows, "a" + " t 1" * 11 + " b 1 : made 1")
        self.tells(rows, held, "a", ("read", 11, "b", "1", ("made", "2")))

    def test_wanted(self):
        rows = ["made a want put 't want put 'm say got 0", "told t 1"]
        held = self.held(rows, "a t 1 : wants m")
        self.tells(rows, held, "a", None)
        self.tells(rows + ["made m fail x"], held, "a", None)
        self.tells(rows + ["made m want put 'a say put 1"], held, "a", None)
        self.tells(rows + ["told m (3)"], held, "a", ("wanted", "m", "(3)"))
        self.tells(rows + ["made m say put 'x"], held, "a", ("wanted", "m", "'x"))

    def test_a_failing_s_word_is_not_wanted(self):
        rows = ["made a fail b", "made b say put 1"]
        self.tells(rows, self.held(rows, "a : fails b"), "a", None)

    def test_the_first_that_is_so(self):
        rows = ["made a want put 't want put 'm say got 0", "told t 2", "told m 3"]
        line = things.line_by("a t 1 : wants m")
        self.tells(rows, {}, "a", ("none",))
        self.tells(rows, {"a": ("want put 't want put 'm say got 1", line)}, "a", ("recipe",))
        self.tells(rows, self.held(rows, "a t 1 : wants m"), "a", ("read", 0, "t", "1", ("made", "2")))
        self.tells(rows, self.held(rows, "a t 2 : wants m"), "a", ("wanted", "m", "3"))
        self.tells(rows, self.held(rows, "a t 2 m 3 : made 2"), "a", None)

    def test_by_good_values_and_not_by_what_is_held_of_others(self):
        rows = ["made a want put 'b say got 0", "made b want put 't say got 0", "told t 2"]
        held = self.held(rows, "a b 1 : made 1", "b t 1 : made 1")
        self.tells(rows, held, "a", ("read", 0, "b", "1", ("made", "2")))
        held = self.held(rows, "a b 2 : made 2", "b t 1 : made 1")
        self.tells(rows, held, "a", None)
        self.tells(rows, held, "b", ("read", 0, "t", "1", ("made", "2")))

    def test_recipes_that_peek(self):
        rows = ["made a want put 't peek put 'b say got 1", "told t 1", "told b 2"]
        self.tells(rows, self.held(rows, "a t 1 : made 7"), "a", None)
        self.tells(rows, self.held(rows, "a t 3 b 2 : made 7"), "a", ("read", 0, "t", "3", ("made", "1")))
        self.tells(rows, self.held(rows, "a t 1 : wants b"), "a", ("wanted", "b", "2"))

    def test_refused(self):
        rows = ["told t 1", "made a want put 't say got 0"]
        held = dict(self.held(rows, "a t 1 : made 1"), t=("say put 1", things.line_by("t : made 1")),
                    z=("say put 1", things.line_by("z : made 1")))
        book = read_book(rows)
        for name in ("t", "z", "b", "made", "", "A", "no name at all"):
            for ask in (reason_for, causes):
                for kept in (held, {}):
                    given = repr((book, kept))
                    with self.assertRaises(NoThing) as caught:
                        ask(book, kept, name)
                    self.assertIs(type(caught.exception), NoThing)
                    self.assertIsInstance(caught.exception, RedoError)
                    self.assertEqual(repr((book, kept)), given)

    def test_any(self):
        source = things.source(157)
        seen = {"none": 0, "recipe": 0, "read": 0, "wanted": 0, None: 0}
        for _ in range(1500):
            book, held = things.elder(source, source.choice([things.HONEST, things.PEEKING]))
            for name in book[1]:
                told = reason_for(book, held, name)
                self.assertEqual(told, plain.reason(book, held, name))
                self.assertIs(stands(book, held, name), told is None)
                seen[told and told[0]] += 1
        self.assertGreater(min(seen.values()), 30, seen)


class Causes(Reasons):
    def row(self, rows, held, name, *wanted):
        with self.subTest(rows=rows, held=held):
            for book in (read_book(rows), read_book(rows[::-1])):
                given = repr((book, held))
                told = causes(book, held, name)
                self.assertEqual(repr((book, held)), given)
                self.assertIs(type(told), list)
                self.assertEqual(told, list(wanted))
                self.assertEqual(repr(told), repr(list(wanted)))

    def test_no_reason(self):
        rows = ["told t 1", "made a want put 't say got 0"]
        self.row(rows, self.held(rows, "a t 1 : made 1"), "a")

    def test_not_held_and_held_by_another_recipe(self):
        rows = ["made a say put 1"]
        self.row(rows, {}, "a", ("a", ("none",)))
        self.row(rows, {"a": ("fail b", things.line_by("a : fails b"))}, "a", ("a", ("recipe",)))
        rows = ["made a want put 'b say got 0", "made b say put 2"]
        held = self.held(rows, "a b 1 : made 1")
        first = ("a", ("read", 0, "b", "1", ("made", "2")))
        self.row(rows, held, "a", first, ("b", ("none",)))
        held["b"] = ("say put 1", things.line_by("b : made 1"))
        self.row(rows, held, "a", first, ("b", ("recipe",)))

    def test_what_was_read_is_told(self):
        rows = ["told t 2", "made a want put 'b say got 0", "made b want put 't say got 0"]
        held = self.held(rows, "a b 1 : made 1", "b t 1 : made 1")
        first, second = ("a", ("read", 0, "b", "1", ("made", "2"))), ("b", ("read", 0, "t", "1", ("made", "2")))
        self.row(rows, held, "a", first, second)
        self.row(rows, held, "b", second)
        held["t"] = ("say put 1", things.line_by("t : made 1"))
        self.row(rows, held, "a", first, second)

    def test_what_was_read_lacks(self):
        rows = ["made a want put 'b say got 0", "made b want put 't say got 0"]
        held = self.held(rows, "a b 1 : made 1", "b t 1 : made 1")
        self.row(rows, held, "a", ("a", ("read", 0, "b", "1", ("wants", "t"))),
                 ("b", ("read", 0, "t", "1", ("lacks",))))

    def test_what_was_read_stands(self):
        rows = ["told t 2", "made a want put 'b say got 0", "made b want put 't say got 0"]
        held = self.held(rows, "a b 1 : made 1", "b t 2 : made 2")
        self.row(rows, held, "a", ("a", ("read", 0, "b", "1", ("made", "2"))))

    def test_fails_and_wants(self):
        rows = ["told t 0", "made a want put 'b say got 0", "made b want put 't when got 0 say put 1 fail sour",
                "made c want put 'd say put 1", "made d want put 't when got 0 say put 1 want put 'e say put 1"]
        held = self.held(rows, "a b 1 : made 1", "b t 1 : made 1", "c d 1 : made 1", "d t 1 : made 1")
        self.row(rows, held, "a", ("a", ("read", 0, "b", "1", ("fails", "sour"))),
                 ("b", ("read", 0, "t", "1", ("made", "0"))))
        self.row(rows, held, "c", ("c", ("read", 0, "d", "1", ("wants", "e"))),
                 ("d", ("read", 0, "t", "1", ("made", "0"))))

    def test_wanted(self):
        rows = ["made a want put 'b say got 0", "made b want put 'c say got 0", "made c say put 4"]
        held = self.held(rows, "a : wants b", "b : wants c")
        row = (("a", ("wanted", "b", "4")), ("b", ("wanted", "c", "4")))
        self.row(rows, held, "a", *row, ("c", ("none",)))
        held["c"] = ("fail x", things.line_by("c : fails x"))
        self.row(rows, held, "a", *row, ("c", ("recipe",)))
        self.row(rows, dict(held, **self.held(rows, "c : made 4")), "a", *row)
        rows[2] = "told c 4"
        self.row(rows, held, "a", *row)
        self.row(rows, held, "b", row[1])

    def test_the_reason_s_thing_and_no_other(self):
        """Behind a read that is otherwise comes that one, not the first read, nor a failing's word."""
        rows = ["made a want put 'b want put 'c say got 0", "made b say put 1", "made c say put 2", "made sour fail x"]
        held = self.held(rows, "a b 1 c 1 : made 1")
        self.row(rows, held, "a", ("a", ("read", 1, "c", "1", ("made", "2"))), ("c", ("none",)))
        rows[2] = "made c fail sour"
        self.row(rows, held, "a", ("a", ("read", 1, "c", "1", ("fails", "sour"))), ("c", ("none",)))

    def test_back_to_a_name_in_the_row(self):
        rows = ["made a want put 'b say put 1", "made b want put 'c say put 1", "made c want put 'a say put 1"]
        held = self.held(rows, "a b 1 : made 1", "b c 1 : made 1", "c a 1 : made 1")
        row = [("a", ("read", 0, "b", "1", ("wants", "c"))), ("b", ("read", 0, "c", "1", ("wants", "a"))),
               ("c", ("read", 0, "a", "1", ("wants", "b")))]
        self.row(rows, held, "a", *row)
        self.row(rows, held, "b", row[1], row[2], row[0])
        self.row(rows, held, "c", row[2], row[0], row[1])
        rows = ["made a want put 'a say put 1", "made d want put 'a say put 1"]
        held = self.held(rows, "a a 1 : made 1", "d a 1 : made 1")
        one = ("a", ("read", 0, "a", "1", ("wants", "a")))
        self.row(rows, held, "a", one)
        self.row(rows, held, "d", ("d", one[1]), one)

    def test_forty(self):
        names = things.names(40)
        rows = [f"made {one} want put '{other} say got 0" for one, other in zip(names, names[1:])]
        held = self.held(rows, *[f"{one} {other} 1 : made 1" for one, other in zip(names, names[1:])])
        wanted = [(one, ("read", 0, other, "1", ("made", "2"))) for one, other in zip(names, names[1:])]
        self.row(rows + [f"told {names[-1]} 2"], held, names[0], *wanted)
        self.row(rows + [f"made {names[-1]} say put 2"], held, names[0], *wanted, (names[-1], ("none",)))

    def test_what_is_told_is_the_asker_s_own(self):
        rows = ["made a want put 'b say got 0", "told b 2"]
        book, held = read_book(rows), self.held(rows, "a b 1 : made 1")
        told = causes(book, held, "a")
        told.clear()
        self.assertEqual(len(causes(book, held, "a")), 1)

    def test_any(self):
        """Each row by the reasons alone; it ends as told, and only so."""
        source = things.source(158)
        seen = {}
        for _ in range(1500):
            book, held = things.elder(source, source.choice([things.HONEST, things.PEEKING]))
            for name in book[1]:
                row = causes(book, held, name)
                names = [one for one, _ in row]
                self.assertEqual(len(set(names)), len(names))
                for one, reason in row:
                    self.assertEqual(reason, plain.reason(book, held, one))
                behind = [named(reason) for _, reason in row]
                self.assertEqual(names[1:], behind[:-1])
                self.assertEqual(names[:1], [name] if plain.reason(book, held, name) else [])
                if row and behind[-1] in book[1]:
                    self.assertTrue(behind[-1] in names or plain.reason(book, held, behind[-1]) is None)
                seen[len(row)] = seen.get(len(row), 0) + 1
        self.assertGreater(min([seen.get(many, 0) for many in range(4)]), 20, seen)


def named(reason):
    return {"read": reason[2:3], "wanted": reason[1:2]}.get(reason[0], (None,))[0]


if __name__ == "__main__":
    unittest.main()
