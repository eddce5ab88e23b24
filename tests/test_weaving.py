"""Points 70 to 73, and of 5: things woven by moves of tasks, in whatever order."""

import copy
import itertools
import unittest

import plain
import things
from redo.booktexts import read_book
from redo.bringing import bring
from redo.checker import lets_by
from redo.errors import NotReady, RedoError
from redo.held import is_held, stands
from redo.making import line_of
from redo.weaving import Weave, woven


class Weaving(unittest.TestCase):
    def weave(self, rows, held, names, *moves):
        """A weave that moved so: each of moves is "a > b c", the task moved and those ready then; told first is
        "> a b", those ready at first. It is settled just when none is ready, and NotReady is what isn't ready."""
        book = read_book(rows)
        self.assertIs(is_held(held), True)
        given = repr((book, held, names))
        weave = Weave(book, held, names)
        for move in moves:
            moved, _, ready = move.partition(">")
            if moved.strip():
                self.assertIsNone(weave.move(moved.strip()))
            self.ready(weave, ready.split())
            for name in sorted({*book[0], *book[1], "zz", "q"} - set(ready.split())):
                self.refused(weave, name)
        self.assertEqual(repr((book, held, names)), given)
        return weave

    def ready(self, weave, names):
        told = weave.ready()
        self.assertEqual(told, names)
        self.assertIs(type(told), list)
        self.assertIs(weave.settled(), names == [])

    def refused(self, weave, thing):
        """Refused with NotReady, and nothing moves."""
        ready, settled = weave.ready(), weave.settled()
        with self.assertRaises(NotReady) as caught:
            weave.move(thing)
        self.assertIs(type(caught.exception), NotReady)
        self.assertIsInstance(caught.exception, RedoError)
        self.assertEqual((weave.ready(), weave.settled()), (ready, settled))

    def weaves(self, rows, held, names, moves, log, *lines):
        """Woven by these moves, as weave takes them, told is this log, and behind it these lines are held."""
        with self.subTest(rows=rows, held=held, names=names, moves=moves):
            self.told(self.weave(rows, held, names, *moves), rows, held, log, *lines)

    def told(self, weave, rows, held, log, *lines):
        told = weave.told()
        self.assertEqual([type(told), type(told[0]), type(told[1]), len(told)], [tuple, dict, list, 2])
        words = log.split()
        self.assertEqual(told[1], list(zip(words[::2], words[1::2])))
        self.assertEqual(told[0], dict(held, **things.held_by(read_book(rows), *lines)))
        done = [name for word, name in told[1] if word == "done"]
        self.assertEqual(sorted(done), sorted([things.line_by(line)[0] for line in lines]))
        self.assertIs(is_held(told[0]), True)

    def held(self, rows, *lines):
        return things.held_by(read_book(rows), *lines)


class AtFirst(Weaving):
    def test_no_names(self):
        self.weaves([], {}, [], [">"], "")
        rows = ["told t 1", "made a say put 1"]
        self.weaves(rows, {}, [], [">"], "")
        held = self.held(rows, "a : made 1")
        self.weaves(rows, held, [], [">"], "")

    def test_told_and_lacking_names_are_settled(self):
        rows = ["told t 1", "made a say put 1"]
        self.weaves(rows, {}, ["t"], [">"], "")
        self.weaves(rows, {}, ["zz", "t", "zz"], [">"], "")
        self.weaves(rows, {}, ["zz", "a", "t"], ["> a", "a >"], "done a", "a : made 1")

    def test_names_twice_have_one_task(self):
        self.weaves(["made a say put 1"], {}, ["a", "a", "a"], ["> a", "a >"], "done a", "a : made 1")
        self.weaves(["made a say put 1", "made b fail x"], {}, ["b", "a", "b"], ["> a b", "b > a", "a >"],
                    "done b done a", "a : made 1", "b : fails x")

    def test_each_made_name_waits_for_nothing_yet(self):
        rows = ["told t 1", "made a want put 'b say got 0", "made b want put 't say got 0",
                "made c want put 'c say put 1", "made d say put 1"]
        self.weave(rows, {}, ["d", "c", "b", "a"], "> a b c d")
        self.weave(rows, self.held(rows, "a b 1 : made 1", "c : wants c"), ["c", "a"], "> a c")


class Done(Weaving):
    """Recipes are done, nothing being held of the things."""

    def test_a_recipe_without_a_want(self):
        for text, end in (("say put 1", "made 1"), ("fail x", "fails x"), ("say many put 1", "fails kind"),
                          ("want put 7 say put 1", "fails name"), ("when put 0 fail x say put 'y", "made 'y")):
            self.weaves([f"made a {text}"], {}, ["a"], ["> a", "a >"], "done a", f"a : {end}")

    def test_a_told_thing_is_waited_for_too(self):
        """It is settled already, so the task is ready again: but each want is a move of its own."""
        rows = ["told t 1", "made a want put 't want put 't say sum got 0 got 1"]
        self.weaves(rows, {}, ["a"], ["> a", "a > a", "a > a", "a >"], "done a", "a t 1 t 1 : made 2")

    def test_a_lacking_thing(self):
        for word in ("want", "peek"):
            rows = ["told t 1", f"made a want put 't {word} put 'zz say put 1"]
            self.weaves(rows, {}, ["a"], ["> a", "a > a", "a > a", "a >"], "done a", "a t 1 : wants zz")

    def test_a_made_thing_gets_a_task_when_it_is_waited_for(self):
        rows = ["made a want put 'b say got 0", "made b say put 2"]
        self.weaves(rows, {}, ["a"], ["> a", "a > b", "b > a", "a >"], "done b done a", "a b 2 : made 2", "b : made 2")

    def test_one_task_for_two_that_wait(self):
        rows = ["made a want put 'b say got 0", "made c want put 'b say got 0", "made b say put 2"]
        lines = ("a b 2 : made 2", "b : made 2", "c b 2 : made 2")
        self.weaves(rows, {}, ["a", "c"], ["> a c", "a > b c", "c > b", "b > a c", "c > a", "a >"],
                    "done b done c done a", *lines)
        self.weaves(rows, {}, ["a", "c", "b"], ["> a b c", "b > a c", "a > a c", "a > c", "c > c", "c >"],
                    "done b done a done c", *lines)

    def test_a_settled_thing_is_waited_for_and_ready_again(self):
        rows = ["made a want put 'b want put 'c say row 2 got 0 got 1", "made b say put 2", "made c say put 3"]
        self.weaves(rows, {}, ["a", "b", "c"],
                    ["> a b c", "b > a c", "a > a c", "c > a", "a > a", "a >"], "done b done c done a",
                    "a b 2 c 3 : made (2,3)", "b : made 2", "c : made 3")

    def test_what_is_not_good_ends_it(self):
        for text, end in (("fail x", "fails x"), ("want put 'zz say put 1", "wants zz")):
            for word in ("want", "peek"):
                rows = ["told t 1", f"made a want put 't {word} put 'b want put 'c say put 1", f"made b {text}",
                        "made c say put 1"]
                weave = self.weave(rows, {}, ["a"], "> a", "a > a", "a > b")
                while weave.ready() == ["b"]:
                    weave.move("b")
                self.ready(weave, ["a"])
                weave.move("a")
                self.ready(weave, [])
                self.told(weave, rows, {}, "done b done a", "a t 1 : wants b", f"b : {end}")

    def test_peeks_stand_in_no_line(self):
        rows = ["told t 5", "made a peek put 'b want put 't peek put 't say row 3 got 0 got 1 got 2",
                "made b say put 2"]
        self.weaves(rows, {}, ["a"], ["> a", "a > b", "b > a", "a > a", "a > a", "a >"], "done b done a",
                    "a t 5 : made (2,5,5)", "b : made 2")

    def test_the_next_want_hangs_on_what_was_got(self):
        rows = ["made a want put 's when got 0 want put 'b say got 1 want put 'c say got 1", "made b say put 5",
                "made c say put 6", "told s 0"]
        self.weaves(rows, {}, ["a"], ["> a", "a > a", "a > c", "c > a", "a >"], "done c done a", "a s 0 c 6 : made 6",
                    "c : made 6")
        rows = ["made a want put 'n want got 0 say got 1", "made b say put 5", "made n say put 'b"]
        self.weaves(rows, {}, ["a"], ["> a", "a > n", "n > a", "a > b", "b > a", "a >"], "done n done b done a",
                    "a n 'b b 5 : made 5", "b : made 5", "n : made 'b")

    def test_a_line_of_another_recipe_s_text_is_not_looked_through(self):
        rows = ["made a want put 'b say got 0", "made b say put 2", "made c say put 3"]
        held = {"a": ("want put 'c say got 0", things.line_by("a c 3 : made 3")),
                "b": ("when put 1 say put 2 fail x", things.line_by("b : made 2"))}
        self.weaves(rows, held, ["a"], ["> a", "a > b", "b > a", "a >"], "done b done a", "a b 2 : made 2",
                    "b : made 2")

    def test_names_that_got_no_task_keep_what_is_held_of_them(self):
        rows = ["told t 1", "made a want put 't say got 0", "made b want put 't say got 0"]
        held = dict(self.held(rows, "a t 7 : made 7", "b t 7 : made 7"),
                    t=("say put 8", things.line_by("t : made 8")), zz=("fail x", things.line_by("zz : fails x")))
        self.weaves(rows, held, ["a", "t", "zz"], ["> a", "a > a", "a > a", "a >"], "done a", "a t 1 : made 1")


class Looked(Weaving):
    """Held lines of the book's own recipe are looked through."""

    def test_kept_without_a_read(self):
        for text, line in (("say put 1", "a : made 1"), ("fail x", "a : fails x")):
            rows = [f"made a {text}"]
            self.weaves(rows, self.held(rows, line), ["a"], ["> a", "a >"], "kept a")

    def test_kept_behind_all_reads(self):
        rows = ["told t 1", "made a want put 't want put 'b want put 't say put 9", "made b say put 2"]
        moves = ["> a", "a > a", "a > b", "b > a", "a > a", "a >"]
        held = self.held(rows, "a t 1 b 2 t 1 : made 9")
        self.weaves(rows, held, ["a"], moves, "done b kept a", "b : made 2")
        held.update(self.held(rows, "b : made 2"))
        self.weaves(rows, held, ["a"], moves, "kept b kept a")

    def test_kept_where_what_is_wanted_is_not_good(self):
        rows = ["told t 1", "made a want put 't want put 'm say put 1"]
        held = self.held(rows, "a t 1 : wants m")
        self.weaves(rows, held, ["a"], ["> a", "a > a", "a > a", "a >"], "kept a")
        self.weaves(rows + ["made m fail x"], held, ["a"], ["> a", "a > a", "a > m", "m > a", "a >"], "done m kept a",
                    "m : fails x")
        rows = ["made a want put 'm say put 1"]
        self.weaves(rows, self.held(rows, "a : wants m"), ["a"], ["> a", "a > a", "a >"], "kept a")

    def test_left_at_each_of_its_reads(self):
        """From its beginning the recipe is done then, and waits anew for what it wants."""
        text = "want put 'b want put 'c want put 'd say row 3 got 0 got 1 got 2"
        for at, name in enumerate("bcd"):
            for now, end in (
                ("told {} 9", None), ("made {} say put 9", "made 9"), ("made {} fail x", "fails x"), ("", None),
            ):
                rows = [f"made a {text}"] + [f"told {one} 1" for one in "bcd" if one != name]
                rows += [now.format(name)] if now else []
                moves = ["> a", "a > " + "a"] + ["a > a"] * at
                if end:
                    moves[-1] = f"a > {name}"
                    moves += [f"{name} > a"]
                log = f"done {name} done a" if end else "done a"
                lines = [f"{name} : {end}"] if end else []
                good = now.endswith("9")
                if good:
                    read = " ".join([f"{one} {9 if one == name else 1}" for one in "bcd"])
                    values = ",".join(["9" if one == name else "1" for one in "bcd"])
                    lines.append(f"a {read} : made ({values})")
                else:
                    lines.append("a" + "".join([f" {one} 1" for one in "bcd"[:at]]) + f" : wants {name}")
                # One move takes the read that is otherwise and waits for the first want; then one for each.
                moves += ["a > a"] * (1 + (2 if good else at)) + ["a >"]
                held = self.held(rows, "a b 1 c 1 d 1 : made (1,1,1)")
                self.weaves(rows, held, ["a"], moves, log, *lines)

    def test_left_at_another_stamp_of_the_same_look(self):
        """The number 1, the text "1" and the row of 1 are unlike."""
        for value in ("'1", "(1)", "-1", "11"):
            rows = ["made a want put 't say got 0", f"told t {value}"]
            self.weaves(rows, self.held(rows, "a t 1 : made 1"), ["a"], ["> a", "a > a", "a > a", "a >"], "done a",
                        f"a t {value} : made {value}")

    def test_left_where_what_was_wanted_is_good(self):
        rows = ["told t 1", "made a want put 't want put 'm say got 1"]
        held = self.held(rows, "a t 1 : wants m")
        self.weaves(rows + ["told m 4"], held, ["a"],
                    ["> a", "a > a", "a > a", "a > a", "a > a", "a >"], "done a", "a t 1 m 4 : made 4")
        self.weaves(rows + ["made m say put 4"], held, ["a"],
                    ["> a", "a > a", "a > m", "m > a", "a > a", "a > a", "a >"], "done m done a", "a t 1 m 4 : made 4",
                    "m : made 4")

    def test_left_and_done_otherwise(self):
        rows = ["told t 0", "made a want put 't when got 0 want put 'b say got 1 say put 7", "made b say put 1"]
        held = self.held(rows, "a t 1 b 1 : made 1")
        self.weaves(rows, held, ["a"], ["> a", "a > a", "a > a", "a >"], "done a", "a t 0 : made 7")

    def test_a_kept_thing_is_good_with_the_value_of_its_line(self):
        rows = ["told t 1", "made a want put 't peek put 'b say got 1", "told b 3", "made c want put 'a say got 0"]
        held = self.held(rows, "a t 1 : made (7,'x)")
        self.weaves(rows, held, ["c"], ["> c", "c > a", "a > a", "a > c", "c >"], "kept a done c",
                    "c a (7,'x) : made (7,'x)")
        self.weaves(rows, self.held(rows, "a t 1 : fails y"), ["c"], ["> c", "c > a", "a > a", "a > c", "c >"],
                    "kept a done c", "c : wants a")

    def test_a_failing_s_word_is_not_waited_for(self):
        rows = ["made a fail b", "made b say put 1"]
        self.weaves(rows, self.held(rows, "a : fails b"), ["a"], ["> a", "a >"], "kept a")


class Rings(Weaving):
    def test_of_one(self):
        for word in ("want", "peek"):
            rows = [f"made a {word} put 'a say put 1"]
            self.weaves(rows, {}, ["a"], ["> a", "a >"], "done a", "a : wants a")
            rows = ["told t 1", f"made a want put 't {word} put 'a say put 1"]
            self.weaves(rows, {}, ["a"], ["> a", "a > a", "a >"], "done a", "a t 1 : wants a")

    def test_of_more(self):
        rows = ["made a want put 'b say put 1", "made b peek put 'c say put 1", "made c want put 'a say put 1"]
        lines = ("a : wants b", "b : wants c", "c : wants a")
        self.weaves(rows, {}, ["a"], ["> a", "a > b", "b > c", "c >"], "done a done b done c", *lines)
        self.weaves(rows, {}, ["b"], ["> b", "b > c", "c > a", "a >"], "done a done b done c", *lines)
        self.weaves(rows, {}, ["c", "a"], ["> a c", "c > a", "a > b", "b >"], "done a done b done c", *lines)
        self.weaves(rows, {}, ["c", "b", "a"], ["> a b c", "c > a b", "b > a", "a >"], "done a done b done c", *lines)

    def test_what_was_read_ahead(self):
        rows = ["told t 1", "made a want put 't want put 'd want put 'b say put 1",
                "made b peek put 't want put 'a say put 1", "made d say put 4"]
        self.weaves(rows, {}, ["a"], ["> a", "a > a", "a > d", "d > a", "a > b", "b > b", "b >"],
                    "done d done a done b", "a t 1 d 4 : wants b", "b : wants a", "d : made 4")

    def test_those_that_wait_for_a_ring_are_settled_with_it(self):
        rows = ["made a want put 'c say put 1", "made b want put 'b say put 1", "made c want put 'b say put 1",
                "made d want put 'e say put 1", "made e want put 'd say put 1"]
        lines = ("a : wants c", "b : wants b", "c : wants b")
        self.weaves(rows, {}, ["a"], ["> a", "a > c", "c > b", "b >"], "done a done b done c", *lines)
        self.weaves(rows, {}, ["d", "a"],
                    ["> a d", "a > c d", "c > b d", "b > d", "d > e", "e >"], "done a done b done c done d done e",
                    "d : wants e", "e : wants d", *lines)

    def test_only_when_none_is_ready(self):
        """While another task can move those that go round wait; they come behind it in the log."""
        rows = ["made a want put 'a say put 1", "made z want put 'y say got 0", "made y say put 3"]
        self.weaves(rows, {}, ["a", "z"], ["> a z", "a > z", "z > y", "y > z", "z >"], "done y done z done a",
                    "a : wants a", "y : made 3", "z y 3 : made 3")
        self.weaves(rows, {}, ["a", "z"], ["> a z", "z > a y", "y > a z", "z > a", "a >"], "done y done z done a",
                    "a : wants a", "y : made 3", "z y 3 : made 3")

    def test_held_rings_are_kept(self):
        rows = ["told t 1", "made a want put 't want put 'b say put 1", "made b want put 'a say put 1",
                "made c want put 'c say put 1"]
        held = self.held(rows, "a t 1 : wants b", "b : wants a", "c : wants c")
        self.weaves(rows, held, ["a"], ["> a", "a > a", "a > b", "b >"], "kept a kept b")
        self.weaves(rows, held, ["c"], ["> c", "c >"], "kept c")
        self.weaves(rows, held, ["c", "b"], ["> b c", "b > a c", "c > a", "a > a", "a >"], "kept a kept b kept c")

    def test_some_are_kept_and_some_done(self):
        rows = ["told t 1", "made a want put 't want put 'b say put 1", "made b want put 'a say put 1"]
        self.weaves(rows, self.held(rows, "b : wants a"), ["a"], ["> a", "a > a", "a > b", "b >"], "done a kept b",
                    "a t 1 : wants b")
        self.weaves(rows, self.held(rows, "a t 1 : wants b"), ["b"], ["> b", "b > a", "a > a", "a >"], "kept a done b",
                    "b : wants a")
        self.weaves(rows, self.held(rows, "a t 2 : wants b"), ["b"], ["> b", "b > a", "a > a", "a > a", "a >"],
                    "done a done b", "a t 1 : wants b", "b : wants a")

    def test_one_that_waits_for_a_read_of_its_held_line_is_done(self):
        """With what was looked at ahead of it, each as it was."""
        rows = ["told t 1", "made a want put 't want put 'd want put 'b want put 't say put 1",
                "made b want put 'a say put 1", "made d say put 4"]
        held = self.held(rows, "a t 1 d 4 b 1 t 1 : made 1")
        self.weaves(rows, held, ["a"], ["> a", "a > a", "a > d", "d > a", "a > b", "b >"], "done d done a done b",
                    "a t 1 d 4 : wants b", "b : wants a", "d : made 4")
        held = self.held(rows, "a t 1 d 4 b 1 t 1 : made 1", "b a 1 : made 1", "d : made 4")
        self.weaves(rows, held, ["b"], ["> b", "b > a", "a > a", "a > d", "d > a", "a >"], "kept d done a done b",
                    "a t 1 d 4 : wants b", "b : wants a")
        rows = ["made a want put 'a say put 1"]
        self.weaves(rows, self.held(rows, "a a 1 : made 1"), ["a"], ["> a", "a >"], "done a", "a : wants a")

    def test_a_recipe_that_peeks_behind_what_it_looked_at(self):
        rows = ["told t 1", "made a want put 't peek put 'b want put 'c say put 1", "made b want put 'a say put 1",
                "made c want put 'a say put 1"]
        moves = ["> a", "a > a", "a > c", "c >"]
        self.weaves(rows, self.held(rows, "a t 1 c 5 : made 1"), ["a"], moves, "done a done c", "a t 1 : wants c",
                    "c : wants a")
        self.weaves(rows, self.held(rows, "a t 1 : wants c"), ["a"], moves, "kept a done c", "c : wants a")

    def test_no_ring_where_another_way_is_gone(self):
        rows = ["told t 0", "made a want put 't when got 0 want put 'b say put 1 say put 2",
                "made b want put 'a say got 0"]
        held = self.held(rows, "a t 1 : wants b", "b : wants a")
        self.weaves(rows, held, ["b"], ["> b", "b > a", "a > a", "a > a", "a > b", "b > b", "b >"], "done a done b",
                    "a t 0 : made 2", "b a 2 : made 2")

    def test_forty_in_a_ring(self):
        names = things.names(40)
        rows = [f"made {one} want put '{other} say got 0" for one, other in zip(names, names[1:] + names[:1])]
        lines = [f"{one} : wants {other}" for one, other in zip(names, names[1:] + names[:1])]
        weave = Weave(read_book(rows), {}, names[:1])
        for name in names:
            self.ready(weave, [name])
            weave.move(name)
        self.ready(weave, [])
        log = " ".join([f"done {name}" for name in names])
        self.told(weave, rows, {}, log, *lines)


class Refused(Weaving):
    def test_waiting_settled_told_and_lacking(self):
        rows = ["told t 1", "made a want put 'b say got 0", "made b want put 't say got 0", "made c say put 1"]
        weave = self.weave(rows, {}, ["a"], "> a", "a > b", "b > b", "b > a", "a >")
        for name in ("a", "b", "c", "t", "zz"):
            self.refused(weave, name)
        self.told(weave, rows, {}, "done b done a", "a b 1 : made 1", "b t 1 : made 1")

    def test_any_thing(self):
        rows = ["told t 1", "made a want put 'b say got 0", "made b say put 2"]
        weave = Weave(read_book(rows), {}, ["a"])
        for name in ("a", "b", "a"):
            for thing in things.odd_things() + ["", "A", "a ", "no name at all", 0, 1, -1, (), ("a",), ("a", "b")]:
                self.refused(weave, thing)
            weave.move(name)
        for thing in things.odd_things() + ["a", "b"]:
            self.refused(weave, thing)
        self.told(weave, rows, {}, "done b done a", "a b 2 : made 2", "b : made 2")

    def test_of_no_tasks(self):
        for names in ([], ["t"], ["zz"]):
            weave = Weave(read_book(["told t 1", "made a say put 1"]), {}, names)
            for thing in ("a", "t", "zz", None, 0):
                self.refused(weave, thing)
            self.assertEqual(weave.told(), ({}, []))


class Own(Weaving):
    """What is handed in is kept as a copy, what is told is the asker's own (2)."""

    def test_told_again_after_what_was_told_is_changed(self):
        rows = ["made a want put 'b say got 0", "made b say put 2"]
        held = self.held(rows, "b : made 2")
        weave = self.weave(rows, held, ["a"], "> a", "a > b", "b > a", "a >")
        for _ in range(3):
            told = weave.told()
            self.told(weave, rows, held, "kept b done a", "a b 2 : made 2")
            told[0].clear()
            told[1].append("x")
            weave.ready().append("x")
        self.ready(weave, [])

    def test_what_was_ready_is_not_changed_by_moves(self):
        weave = Weave(read_book(["made a say put 1", "made b say put 2"]), {}, ["a", "b"])
        ready = weave.ready()
        weave.move("a")
        self.assertEqual(ready, ["a", "b"])
        ready.clear()
        self.ready(weave, ["b"])

    def test_what_was_handed_in_may_be_changed_behind_it(self):
        rows = ["told t 1", "made a want put 'b want put 't say row 2 got 0 got 1", "made b want put 't say got 0"]
        book, names = read_book(rows), ["a"]
        held = self.held(rows, "b t 1 : made 1")
        kept = copy.deepcopy(held)
        weave = Weave(book, held, names)
        book[0].clear()
        book[1].clear()
        held.clear()
        names.append("b")
        for name, ready in zip("abbaa", ["b", "b", "a", "a", None]):
            weave.move(name)
            self.ready(weave, [ready] if ready else [])
            book[0]["t"] = 7
            held["a"] = ("say put 1", ("a", (), ("made", "1")))
        self.told(weave, rows, kept, "kept b done a", "a b 1 t 1 : made (1,1)")

    def test_two_weaves_side_by_side(self):
        rows = ["told t 1", "made a want put 't want put 'b say got 0", "made b want put 't say got 0"]
        other_rows = ["told t 2", "made a want put 'b say got 0", "made b want put 'a say got 0"]
        held = self.held(rows, "b t 1 : made 1")
        one, other = Weave(read_book(rows), held, ["a"]), Weave(read_book(other_rows), held, ["b"])
        for moved, one_ready, other_moved, other_ready in (("a", "a", "b", "a"), ("a", "b", "a", "")):
            one.move(moved)
            self.ready(one, one_ready.split())
            other.move(other_moved)
            self.ready(other, other_ready.split())
        self.told(other, other_rows, held, "done a done b", "a : wants b", "b : wants a")
        for moved, ready in (("b", "b"), ("b", "a"), ("a", "")):
            one.move(moved)
            self.ready(one, ready.split())
        self.told(one, rows, held, "kept b done a", "a t 1 b 1 : made 1")
        self.told(other, other_rows, held, "done a done b", "a : wants b", "b : wants a")

    def test_two_weaves_of_one_book(self):
        rows = ["made a want put 'b say got 0", "made b say put 2"]
        book = read_book(rows)
        one, other = Weave(book, {}, ["a"]), Weave(book, {}, ["a"])
        one.move("a")
        one.move("b")
        self.ready(one, ["a"])
        self.ready(other, ["a"])
        other.move("a")
        self.ready(other, ["b"])


class Turns(Weaving):
    ROWS = ["made a want put 'c say got 0", "made b want put 'c say got 0", "made c say put 1", "made d say put 2"]

    def turned(self, names, turns, log):
        book = read_book(self.ROWS)
        given = repr((book, names, turns))
        told = woven(book, {}, names, turns)
        self.assertEqual(repr((book, names, turns)), given)
        self.assertEqual([type(told), type(told[0]), type(told[1])], [tuple, dict, list])
        self.assertEqual(" ".join([name for _, name in told[1]]), log)
        self.assertEqual(told[0], bring(book, {}, names)[0])

    def test_by_none_the_first_one_moves(self):
        self.turned([], [], "")
        self.turned(["d"], [], "d")
        self.turned(["a", "b", "d"], [], "c a b d")

    def test_fewer_than_moves(self):
        """a moves, then b (of b, c, d), then d (of c, d), and from then on the first one."""
        self.turned(["a", "b", "d"], [0, 0, 1], "d c a b")
        self.turned(["a", "b", "d"], [2], "d c a b")
        self.turned(["a", "b", "d"], [1, 1], "c a b d")

    def test_as_many_as_moves(self):
        # Ready are: abd, bcd, cd, c, ab, b.
        self.turned(["a", "b", "d"], [0, 0, 1, 0, 1, 0], "d c b a")
        self.turned(["a", "b", "d"], [0, 0, 1, 0, 0, 0], "d c a b")

    def test_more_than_moves(self):
        self.turned(["a", "b", "d"], [0, 0, 1, 0, 1, 0, 5, 6, 7], "d c b a")
        self.turned([], [1, 2, 3], "")
        self.turned(["d"], list(range(2000)), "d")
        self.turned(["a", "b", "d"], [0] * 2000, "c a b d")

    def test_by_how_many_are_ready(self):
        """Each number counts by what it leaves over."""
        self.turned(["a", "b", "d"], [3, 3, 3, 7, 5, 9], "d c b a")
        self.turned(["a", "b", "d"], [10 ** 30 * 3, 3 * 10 ** 9, 2 * 10 ** 9 + 1, 1, 2 * 10 ** 18 + 1, 4], "d c b a")

    def test_held_and_rings(self):
        rows = ["made a want put 'b say put 1", "made b want put 'a say put 1", "made c say put 1"]
        book, held = read_book(rows), self.held(rows, "a : wants b")
        for turns in ([], [1], [1, 1, 1, 1], [0, 2, 1]):
            told = woven(book, held, ["c", "b"], turns)
            self.assertEqual(told[0], bring(book, held, ["b", "c"])[0])
            self.assertEqual(sorted(told[1]), [("done", "b"), ("done", "c"), ("kept", "a")])

    def test_all_turns(self):
        """In whatever order a small weave moves: the same lines, the same things done."""
        rows = ["told t 0", "made a want put 'b want put 't say got 0", "made b want put 't say got 0",
                "made c want put 'd fail x", "made d want put 'a want put 'c say put 1", "made e want put 'b say got 0"]
        book = read_book(rows)
        held = self.held(rows, "a b 1 t 0 : made 1", "b t 1 : made 1", "e b 0 : made 0")
        wanted = bring(book, held, ["a", "c", "e"])
        self.assertEqual(sorted(wanted[1]), [("done", "a"), ("done", "b"), ("done", "c"), ("done", "d"), ("kept", "e")])
        logs = set()
        for turns in itertools.product(range(3), repeat=7):
            told = woven(book, held, ["a", "c", "e"], list(turns))
            self.assertEqual(told[0], wanted[0])
            self.assertEqual(sorted(told[1]), sorted(wanted[1]))
            logs.add(" ".join([name for _, name in told[1]]))
        self.assertEqual(sorted(logs), ["b a e c d", "b e a c d"])

    def test_any(self):
        """As a weave moved by hand."""
        source = things.source(171)
        for _ in range(300):
            book, held = things.elder(source)
            names = things.asked_names(source, book)
            turns = [source.randrange(100) for _ in range(source.choice([0, 3, 10, 200]))]
            weave = plain.Weaving(book, held, names)
            for turn in itertools.chain(turns, itertools.repeat(0)):
                ready = weave.ready()
                if not ready:
                    break
                weave.move(ready[turn % len(ready)])
            self.assertEqual(woven(book, held, names, turns), (weave.held, weave.log))


class Any(Weaving):
    """Many drawn books, with held lines of elder ones, in many orders of moves."""

    def test_each_step(self):
        """Ready, settled, told: as a plain reading has it, move by move; at most thirty for each made thing."""
        source = things.source(70)
        seen = {"kept": 0, "done": 0, "round": 0, "kept round": 0, "looked round": 0}
        for _ in range(1500):
            book, held = things.elder(source, source.choice([things.HONEST, things.PEEKING]))
            names = things.asked_names(source, book)
            given = repr((book, held, names))
            weave, other = Weave(book, held, names), plain.Weaving(book, held, names)
            moves = 0
            while not weave.settled():
                ready = weave.ready()
                self.assertEqual(ready, other.ready())
                self.assertNotEqual(ready, [])
                name = source.choice(ready)
                where = {left: other.tasks[left][2] for left in other.left() if left != name}
                many = len(other.log)
                weave.move(name)
                other.move(name)
                moves += 1
                rows = other.log[many:]
                seen["round"] += len(rows) > 1
                seen["kept round"] += len(rows) > 1 and "kept" in [word for word, _ in rows]
                seen["looked round"] += len(rows) > 1 and "look" in [where[one][0] for _, one in rows if one in where]
            self.assertEqual(repr((book, held, names)), given)
            self.ready(weave, other.ready())
            told = weave.told()
            self.assertEqual(told, (other.held, other.log))
            self.assertEqual(repr(told[1]), repr(other.log))
            self.assertIs(is_held(told[0]), True)
            self.assertLessEqual(moves, 30 * len(told[1]))
            for word, _ in told[1]:
                seen[word] += 1
        self.assertGreater(min(seen.values()), 5, seen)

    def test_honest_books(self):
        """Whatever the order of moves: held as bringing tells it, its log's rows, lines that are a paper."""
        source = things.source(73)
        seen = 0
        for _ in range(600):
            book, held = things.elder(source, things.HONEST)
            names = things.asked_names(source, book)
            wanted = bring(book, held, names)
            for _ in range(3):
                turns = [source.randrange(40) for _ in range(source.choice([0, 10, 300]))]
                told = woven(things.shuffled(source, book), held, source.sample(names, len(names)), turns)
                self.assertEqual(told[0], wanted[0])
                self.assertEqual(sorted(told[1]), sorted(wanted[1]))
                seen += told[1] != wanted[1]
            for word, name in told[1]:
                self.assertEqual(told[0][name][1], line_of(book, name))
                self.assertIs(stands(book, held, name), word == "kept")
            self.assertIs(lets_by(book, [told[0][name][1] for _, name in told[1]]), True)
            again = woven(book, told[0], names, turns)
            self.assertEqual(again[0], told[0])
            self.assertEqual(sorted(again[1]), sorted([("kept", name) for _, name in told[1]]))
        self.assertGreater(seen, 200)

    def test_the_most_moves(self):
        """Twelve reads looked through and a wanted thing behind them, then twelve wants and peeks."""
        rows = ["told t 1", "told m 1", "made a " + "want put 't " * 11 + "peek put 't say put 1"]
        held = self.held(rows, "a" + " t 1" * 12 + " : wants m")
        weave = Weave(read_book(rows), held, ["a"])
        moves = 0
        while not weave.settled():
            weave.move("a")
            moves += 1
        self.assertEqual(moves, 26)
        self.told(weave, rows, held, "done a", "a" + " t 1" * 11 + " : made 1")

    def test_rows_of_forty(self):
        names = things.names(40)
        rows = [f"made {one} want put '{other} say got 0" for one, other in zip(names, names[1:])]
        rows.append(f"made {names[-1]} say put 3")
        book = read_book(rows)
        wanted = bring(book, {}, names[:1])
        for asked in (names[:1], names, names[::-1]):
            for turns in ([], [39] * 200, list(range(2000))):
                told = woven(book, {}, asked, turns)
                self.assertEqual(told, wanted)
                again = woven(book, told[0], asked, turns)
                self.assertEqual(again, (told[0], [("kept", name) for name in names[::-1]]))


if __name__ == "__main__":
    unittest.main()
