"""Points 95 to 97: what a house is told, what it is asked and weaves, and its audits."""

import unittest

import plain
import things
from redo.booktexts import read_book
from redo.bringing import bring
from redo.errors import NoName, NoRecipe, NoThing, NoValue, RedoError, TooMany
from redo.house import House
from redo.making import fresh
from redo.recipetexts import read_recipe
from redo.shelftexts import entry_text

SAY = ("say", ("put", 1))


class Houses(unittest.TestCase):
    def house(self, *rows):
        """A house of the book of these rows."""
        house = House()
        self.make(house, *rows)
        return house

    def make(self, house, *rows):
        told, made = read_book(list(rows))
        for name, value in told.items():
            self.assertIsNone(house.tell(name, value))
        for name, recipe in made.items():
            self.assertIsNone(house.make(name, recipe))

    def state(self, house):
        return repr((house.book(), house.held(), house.log(), house.faults(), house.shelf()))

    def refused(self, house, error, call, *given):
        """Refused with just this error, and nothing is changed."""
        state = self.state(house)
        with self.assertRaises(RedoError) as caught:
            call(*given)
        self.assertIs(type(caught.exception), error)
        self.assertEqual(self.state(house), state)
        return caught.exception

    def holds(self, house, *lines):
        """Held are just these lines, each with the text of the book's recipe."""
        self.assertEqual(house.held(), things.held_by(house.book(), *lines))

    def log(self, house, words):
        words = words.split()
        self.assertEqual(house.log(), list(zip(words[::2], words[1::2])))

    def shelf(self, house, *texts):
        self.assertEqual([entry_text(entry) for entry in house.shelf()], list(texts))


class Deeds(Houses):
    def test_at_first(self):
        house = House()
        self.assertEqual(house.book(), ({}, {}))
        self.assertEqual((house.held(), house.log(), house.faults(), house.shelf()), ({}, [], [], []))
        self.assertEqual([type(house.book()), type(house.held())], [tuple, dict])
        self.assertEqual([type(house.log()), type(house.faults()), type(house.shelf())], [list] * 3)

    def test_tell(self):
        house = House()
        self.assertIsNone(house.tell("a", 1))
        self.assertIsNone(house.tell("b", (1, "x")))
        self.assertEqual(house.book(), ({"a": 1, "b": (1, "x")}, {}))
        house.tell("a", "y")
        self.assertEqual(house.book(), ({"a": "y", "b": (1, "x")}, {}))

    def test_make(self):
        house = House()
        self.assertIsNone(house.make("a", SAY))
        self.assertEqual(house.book(), ({}, {"a": SAY}))
        house.make("a", ("fail", "x"))
        self.assertEqual(house.book(), ({}, {"a": ("fail", "x")}))

    def test_told_what_was_made_and_made_what_was_told(self):
        house = House()
        house.tell("a", 1)
        house.make("b", SAY)
        house.make("a", SAY)
        house.tell("b", 2)
        self.assertEqual(house.book(), ({"b": 2}, {"a": SAY}))

    def test_strike(self):
        house = self.house("told a 1", "told c 2", "made b say put 1", "made d fail x")
        self.assertIsNone(house.strike("a"))
        self.assertIsNone(house.strike("b"))
        self.assertEqual(house.book(), ({"c": 2}, {"d": ("fail", "x")}))
        house.strike("c")
        house.strike("d")
        self.assertEqual(house.book(), ({}, {}))

    def test_no_names(self):
        house = self.house("told a 1", "made b say put 1")
        for thing in things.odd_things() + ["", "A", "abcdefghi", "a1", "a b", " a", "a\n", 7, ("a",)]:
            self.refused(house, NoName, house.tell, thing, 1)
            self.refused(house, NoName, house.make, thing, SAY)
            self.refused(house, NoName, house.strike, thing)
            self.refused(house, NoName, house.tell, thing, None)
            self.refused(house, NoName, house.make, thing, None)

    def test_no_values(self):
        house = self.house("told a 1", "made b say put 1")
        for thing in things.odd_things() + ["A", "x" * 21, 10 ** 18 + 1, (None,), things.nested(1, 5), (1,) * 9]:
            for name in ("a", "b", "c"):
                self.refused(house, NoValue, house.tell, name, thing)

    def test_no_recipes(self):
        house = self.house("told a 1", "made b say put 1")
        for thing in things.odd_things() + ["say put 1", 1, (), ("say",), ("say", 1), ("fail", "X"), ("got", 0),
                                            ("say", ("got", 0)), things.asking(["want"] * 13, SAY)]:
            for name in ("a", "b", "c"):
                self.refused(house, NoRecipe, house.make, name, thing)

    def test_forty_names(self):
        house = House()
        names = things.names(40)
        for at, name in enumerate(names):
            house.tell(name, at) if at % 2 else house.make(name, SAY)
        self.refused(house, TooMany, house.tell, "zz", 1)
        self.refused(house, TooMany, house.make, "zz", SAY)
        self.refused(house, NoValue, house.tell, "zz", None)
        self.refused(house, NoRecipe, house.make, "zz", None)
        self.refused(house, NoThing, house.strike, "zz")
        for name in names[:2]:
            house.tell(name, 7)
            house.make(name, SAY)
        house.strike(names[5])
        house.tell("zz", 1)
        self.assertEqual(len(house.book()[0]) + len(house.book()[1]), 40)
        self.refused(house, TooMany, house.make, names[5], SAY)

    def test_strike_what_is_not_there(self):
        house = self.house("told a 1")
        self.refused(house, NoThing, house.strike, "b")
        house.strike("a")
        self.refused(house, NoThing, house.strike, "a")

    def test_what_is_held_stays(self):
        """Behind deeds of things that are held, too; so do the log, the shelf and the faults."""
        house = self.house("told t 1", "made a want put 't say got 0", "made b fail x", "made p peek put 't say got 0")
        house.ask(["a", "b", "p"])
        house.tell("t", 2)
        house.sweep(["a", "b"])
        house.ask(["p"])
        kept = (house.held(), house.log(), house.shelf(), house.faults())
        self.assertEqual([len(part) for part in kept], [3, 5, 2, 1])
        for deed in ((house.tell, "t", 2), (house.tell, "a", 7), (house.make, "a", SAY), (house.strike, "b"),
                     (house.strike, "a"), (house.strike, "t"), (house.make, "t", SAY), (house.strike, "p")):
            deed[0](*deed[1:])
            self.assertEqual((house.held(), house.log(), house.shelf(), house.faults()), kept)

    def test_nothing_is_made_by_a_deed(self):
        house = self.house("told t 1", "made a want put 't say got 0")
        self.assertEqual((house.held(), house.log(), house.shelf()), ({}, [], []))


class Asks(Houses):
    BREAD = ("told flour 2", "made dough want put 'flour say sum got 0 put 1", "made bread want put 'dough say got 0")

    def test_ask(self):
        house = self.house(*self.BREAD)
        told = house.ask(["bread"])
        self.assertEqual(told, [("made", 3)])
        self.assertIs(type(told), list)
        self.holds(house, "dough flour 2 : made 3", "bread dough 3 : made 3")
        self.log(house, "done dough done bread")
        self.shelf(house, "made 3 1 flour 2 want put 'flour say sum got 0 put 1",
                   "made 3 1 dough 3 want put 'dough say got 0")
        self.assertEqual(house.faults(), [])

    def test_again_all_is_kept(self):
        house = self.house(*self.BREAD)
        house.ask(["bread"])
        held, shelf = house.held(), house.shelf()
        self.assertEqual(house.ask(["bread"]), [("made", 3)])
        self.assertEqual((house.held(), house.shelf()), (held, shelf))
        self.log(house, "done dough done bread kept dough kept bread")

    def test_behind_a_change_only_that_is_done(self):
        house = self.house("told t 2", "made a want put 't say less got 0 put 9", "made b want put 'a say got 0")
        house.ask(["b"])
        house.tell("t", 3)
        self.assertEqual(house.ask(["b"]), [("made", 1)])
        self.log(house, "done a done b done a kept b")
        self.holds(house, "a t 3 : made 1", "b a 1 : made 1")

    def test_what_the_shelf_has_is_fetched(self):
        house = self.house(*self.BREAD)
        house.ask(["bread"])
        house.tell("flour", 5)
        self.assertEqual(house.ask(["bread"]), [("made", 6)])
        shelf = house.shelf()
        self.assertEqual(len(shelf), 4)
        house.tell("flour", 2)
        self.assertEqual(house.ask(["bread"]), [("made", 3)])
        self.log(house, "done dough done bread done dough done bread fetched dough fetched bread")
        self.holds(house, "dough flour 2 : made 3", "bread dough 3 : made 3")
        self.assertEqual(house.shelf(), shelf)

    def test_names_twice_and_of_none(self):
        house = self.house(*self.BREAD)
        self.assertEqual(house.ask([]), [])
        self.log(house, "")
        told = house.ask(["bread", "flour", "bread", "zz", "dough", "flour"])
        self.assertEqual(told, [("made", 3), ("made", 2), ("made", 3), ("lacks", ("zz",)), ("made", 3), ("made", 2)])
        self.log(house, "done dough done bread")
        self.assertEqual(house.ask(["zz", "flour"]), [("lacks", ("zz",)), ("made", 2)])
        self.log(house, "done dough done bread")

    def test_each_result(self):
        rows = ("told t 5", "told r (1,'x)", "made good say put 1", "made bad fail burnt",
                "made worse want put 'bad say put 1", "made worst want put 'worse say put 1",
                "made lack want put 'zz say put 1", "made lacks want put 'lack say put 1",
                "made ring want put 'rings say put 1",
                "made rings want put 'ringed say put 1", "made ringed want put 'rings say put 1",
                "made self want put 'self say put 1", "made none want put 7 say put 1")
        wanted = {
            "t": ("made", 5), "r": ("made", (1, "x")), "good": ("made", 1), "bad": ("fails", ("bad",), "burnt"),
            "worse": ("fails", ("worse", "bad"), "burnt"), "worst": ("fails", ("worst", "worse", "bad"), "burnt"),
            "zz": ("lacks", ("zz",)), "lack": ("lacks", ("lack", "zz")), "lacks": ("lacks", ("lacks", "lack", "zz")),
            "self": ("ring", ("self", "self")), "rings": ("ring", ("rings", "ringed", "rings")),
            "ring": ("ring", ("ring", "rings", "ringed", "rings")), "none": ("fails", ("none",), "name"),
        }
        for name in wanted:
            for house in (self.house(*rows), self.house(*rows[::-1])):
                self.assertEqual(house.ask([name]), [wanted[name]])
                self.assertEqual(house.ask([name]), [wanted[name]])
                self.assertEqual(house.weave([name], [1, 2, 3]), [wanted[name]])
                self.assertEqual(fresh(house.book(), name), wanted[name])
        for way in (lambda house, names: house.ask(names), lambda house, names: house.weave(names, [5, 3, 1])):
            for names in (list(wanted), list(wanted)[::-1]):
                self.assertEqual(way(self.house(*rows), names), [wanted[name] for name in names])

    def test_elder_lines_of_names_that_the_book_does_not_make(self):
        """Their lines stay held, but count for nothing."""
        for way in (lambda house, names: house.ask(names), lambda house, names: house.weave(names, [])):
            house = self.house("made a want put 'b say put 1", "made b fail x", "made c say put 4")
            self.assertEqual(way(house, ["a", "b", "c"]),
                             [("fails", ("a", "b"), "x"), ("fails", ("b",), "x"), ("made", 4)])
            house.strike("b")
            house.strike("c")
            self.assertEqual(sorted(house.held()), ["a", "b", "c"])
            told = way(house, ["a", "b", "c"])
            self.assertEqual(told, [("lacks", ("a", "b")), ("lacks", ("b",)), ("lacks", ("c",))])
            self.log(house, "done b done a done c kept a")
            house.tell("c", 9)
            house.tell("b", 0)
            self.assertEqual(way(house, ["a", "b", "c"]), [("made", 1), ("made", 0), ("made", 9)])
            self.assertEqual(sorted(house.held()), ["a", "b", "c"])
            house.make("b", read_recipe("want put 'c fail y"))
            self.assertEqual(way(house, ["a"]), [("fails", ("a", "b"), "y")])

    def test_lines_of_other_names_stay_held(self):
        house = self.house("told t 1", "made a want put 't say got 0", "made b want put 't say got 0")
        house.ask(["a"])
        house.tell("t", 2)
        house.ask(["b"])
        self.holds(house, "a t 1 : made 1", "b t 2 : made 2")

    def test_what_is_handed_in_stays(self):
        house = self.house(*self.BREAD)
        names, turns = ["bread", "zz"], [3, 4]
        house.ask(names)
        house.weave(names, turns)
        house.sweep(names)
        house.paper(names)
        self.assertEqual((names, turns), (["bread", "zz"], [3, 4]))


class Weaves(Houses):
    ROWS = ("told t 1", "made a want put 'c say got 0", "made b want put 't fail x", "made c want put 't say got 0")
    A, B, C = ("made 1 1 c 1 want put 'c say got 0", "fails x 1 t 1 want put 't fail x",
               "made 1 1 t 1 want put 't say got 0")

    def test_weave(self):
        house = self.house(*self.ROWS)
        told = house.weave(["a", "b"], [])
        self.assertEqual(told, [("made", 1), ("fails", ("b",), "x")])
        self.assertIs(type(told), list)
        self.holds(house, "a c 1 : made 1", "b t 1 : fails x", "c t 1 : made 1")
        self.log(house, "done b done c done a")
        self.shelf(house, self.B, self.C, self.A)

    def test_by_turns(self):
        """The log and the shelf have the order of moves."""
        for turns, log, shelf in (([1, 1, 1], "done b done c done a", (self.B, self.C, self.A)),
                                  ([0, 1, 1, 0], "done c done a done b", (self.C, self.A, self.B)),
                                  ([0, 3, 5, 1, 1], "done c done b done a", (self.C, self.B, self.A))):
            house = self.house(*self.ROWS)
            self.assertEqual(house.weave(["a", "b", "a"], turns), [("made", 1), ("fails", ("b",), "x"), ("made", 1)])
            self.log(house, log)
            self.shelf(house, *shelf)

    def test_names_of_none_told_and_lacking(self):
        house = self.house(*self.ROWS)
        self.assertEqual(house.weave([], [1, 2]), [])
        self.assertEqual(house.weave(["t", "zz", "t"], [1]), [("made", 1), ("lacks", ("zz",)), ("made", 1)])
        self.assertEqual((house.held(), house.log(), house.shelf()), ({}, [], []))

    def test_kept_and_done(self):
        house = self.house(*self.ROWS)
        house.weave(["a"], [])
        self.log(house, "done c done a")
        house.weave(["a"], [7])
        self.log(house, "done c done a kept c kept a")
        house.tell("t", 2)
        self.assertEqual(house.weave(["a"], []), [("made", 2)])
        self.log(house, "done c done a kept c kept a done c done a")
        self.assertEqual(len(house.shelf()), 4)

    def test_no_shelf_is_asked(self):
        """A weave does what the shelf has; nothing more is put then."""
        house = self.house(*self.ROWS)
        house.ask(["c"])
        house.sweep([])
        self.assertEqual(house.held(), {})
        house.weave(["c"], [])
        self.log(house, "done c done c")
        self.shelf(house, self.C)

    def test_what_was_woven_is_fetched_then(self):
        house = self.house(*self.ROWS)
        house.weave(["a", "b"], [])
        house.sweep([])
        house.ask(["a", "b"])
        self.log(house, "done b done c done a fetched c fetched a fetched b")

    def test_what_is_kept_or_wants_or_peeks_is_not_put(self):
        house = self.house("told t 1", "made a peek put 't say got 0", "made b want put 'zz say put 1",
                           "made c want put 'd say put 1", "made d want put 'c say put 1",
                           "made e want put 'b say put 1", "made f want put 'a say got 0",
                           "made g want put 't when got 0 say put 1 peek put 't say put 1")
        for way in ("weave", "ask"):
            house.weave(list("abcdefg"), [1, 2, 3]) if way == "weave" else house.ask(list("abcdefg"))
            self.shelf(house, "made 1 1 a 1 want put 'a say got 0")
            self.assertEqual(len(house.held()), 7)

    def test_rings(self):
        house = self.house("made b want put 'a say put 1", "made a want put 'b say put 1", "made c want put 'a fail x")
        told = house.weave(["c", "b"], [1, 1, 1, 1])
        self.assertEqual(told, [("ring", ("c", "a", "b", "a")), ("ring", ("b", "a", "b"))])
        self.holds(house, "a : wants b", "b : wants a", "c : wants a")
        self.assertEqual(sorted(house.log()), [("done", "a"), ("done", "b"), ("done", "c")])
        self.shelf(house)

    def test_turns_beyond_the_moves(self):
        house = self.house(*self.ROWS)
        self.assertEqual(house.weave(["a"], list(range(2000))), [("made", 1)])
        self.assertEqual(house.weave(["a"], [9999] * 2000), [("made", 1)])


class Watched(Houses):
    """What is done is shown to the watch."""

    ROWS = ("told t 1", "told s 1", "made p want put 's peek put 't say got 1", "made q want put 'p say got 0")
    TEXT = "want put 's peek put 't say got 1"

    def ways(self):
        return (lambda house, names: house.ask(names), lambda house, names: house.weave(names, []))

    def test_untold_behind_its_done(self):
        for way in self.ways():
            house = self.house(*self.ROWS)
            way(house, ["q"])
            self.assertEqual(house.faults(), [])
            house.tell("t", 2)
            self.assertEqual(way(house, ["q"]), [("made", 1)])
            self.assertEqual(house.audit(), ["p"])
            self.assertEqual(way(house, ["q"]), [("made", 2)])
            self.log(house, "done p done q kept p kept q stale p done p untold p done q")
            one, other = things.line_by("p s 1 : made 1"), things.line_by("p s 1 : made 2")
            self.assertEqual(house.faults(), [(self.TEXT, one, other)])
            self.assertEqual(way(house, ["q", "p"]), [("made", 2), ("made", 2)])
            self.assertEqual(house.log()[-2:], [("kept", "p"), ("kept", "q")])
            self.assertEqual(len(house.faults()), 1)

    def test_what_another_read_shows_is_no_fault(self):
        for way in self.ways():
            house = self.house(*self.ROWS)
            way(house, ["p"])
            house.tell("t", 2)
            house.tell("s", 2)
            way(house, ["p"])
            self.log(house, "done p done p")
            self.assertEqual(house.faults(), [])
            house.tell("s", 1)
            way(house, ["p"])
            self.log(house, "done p done p done p untold p")
            self.assertEqual(len(house.faults()), 1)

    def test_two_names_of_one_recipe(self):
        for way in self.ways():
            house = self.house("told t 1", "made a peek put 't say got 0", "made b peek put 't say got 0")
            way(house, ["a"])
            house.tell("t", 2)
            way(house, ["b"])
            self.log(house, "done a done b untold b")
            self.assertEqual(house.faults(), [("peek put 't say got 0", things.line_by("a : made 1"),
                                               things.line_by("b : made 2"))])

    def test_another_recipe_of_one_name_is_no_fault(self):
        for way in self.ways():
            house = self.house("told t 1", "made a peek put 't say got 0")
            way(house, ["a"])
            house.make("a", read_recipe("peek put 't say row 1 got 0"))
            way(house, ["a"])
            self.log(house, "done a done a")
            self.assertEqual(house.faults(), [])

    def test_what_was_seen_stays_seen(self):
        """Behind strikes, sweeps and audits, too; asked and woven things are shown to one watch."""
        house = self.house("told t 1", "made a peek put 't say got 0")
        house.ask(["a"])
        house.strike("a")
        house.sweep([])
        house.audit()
        self.make(house, "told t 2", "made a peek put 't say got 0")
        house.weave(["a"], [])
        self.log(house, "done a done a untold a")
        house.sweep([])
        house.tell("t", 1)
        house.ask(["a"])
        self.log(house, "done a done a untold a done a untold a")
        lines = [things.line_by("a : made 1"), things.line_by("a : made 2")]
        self.assertEqual(house.faults(), [("peek put 't say got 0", lines[0], lines[1]),
                                          ("peek put 't say got 0", lines[1], lines[0])])

    def test_what_is_taken_kept_or_fetched_is_not_shown(self):
        house = self.house("told t 1", "made a want put 't when got 0 say put 1 peek put 't say put 2")
        house.take([things.line_by("a t 1 : made 1")])
        house.ask(["a"])
        self.log(house, "kept a")
        self.assertEqual(house.faults(), [])
        for _ in range(3):
            house.ask(["a"])
        self.assertEqual(house.faults(), [])

    def test_in_the_order_of_the_log(self):
        rows = ["told t 1"] + [f"made {name} peek put 't say row 2 got 0 put '{name}" for name in "abc"]
        house = self.house(*rows)
        house.ask(["c", "a", "b"])
        house.tell("t", 2)
        self.assertEqual(house.audit(), ["a", "b", "c"])
        house.ask(["b", "c", "a"])
        self.log(house, "done c done a done b stale a stale b stale c done b untold b done c untold c done a untold a")
        self.assertEqual([new[0] for _, _, new in house.faults()], ["b", "c", "a"])

    def test_nothing_of_honest_recipes(self):
        house = self.house("told t 1", "made a want put 't when got 0 say put 1 want put 's say put 2")
        for value in (1, 0, 2, "", 1):
            house.tell("t", value)
            house.ask(["a"])
            house.sweep([])
            house.weave(["a"], [])
        self.assertEqual(house.faults(), [])
        self.assertNotIn("untold", [word for word, _ in house.log()])


class Audits(Houses):
    ROWS = ("told t 1", "made a peek put 't say got 0", "made b peek put 'a say got 0", "made c want put 'a say got 0")

    def test_nothing_is_stale(self):
        house = House()
        self.assertEqual(house.audit(), [])
        house = self.house(*self.ROWS)
        self.assertEqual(house.audit(), [])
        house.ask(["b", "c"])
        state = self.state(house)
        told = house.audit()
        self.assertEqual(told, [])
        self.assertIs(type(told), list)
        self.assertEqual(self.state(house), state)

    def test_stale_names(self):
        house = self.house(*self.ROWS)
        house.ask(["b", "c"])
        self.log(house, "done a done b done c")
        house.tell("t", 2)
        self.assertEqual(house.audit(), ["a", "b"])
        self.holds(house, "c a 1 : made 1")
        self.log(house, "done a done b done c stale a stale b")
        self.assertEqual(house.audit(), [])
        self.assertEqual(house.ask(["c", "b", "a"]), [("made", 2)] * 3)
        self.log(house, "done a done b done c stale a stale b done a untold a done c done b untold b")
        for names in (["c", "b", "a"], ["a", "b"], ["b"]):
            many = len(house.log())
            self.assertEqual(house.ask(names), [("made", 2)] * len(names))
            self.assertEqual({word for word, _ in house.log()[many:]}, {"kept"})

    def test_woven_behind_it(self):
        house = self.house(*self.ROWS)
        house.weave(["b", "c"], [])
        house.tell("t", 2)
        self.assertEqual(house.weave(["b"], []), [("made", 1)])
        self.assertEqual(house.audit(), ["a", "b"])
        self.assertEqual(house.weave(["c", "b", "a"], [1, 2]), [("made", 2)] * 3)

    def test_by_an_elder_recipe_or_of_another_name(self):
        house = self.house(*self.ROWS)
        house.ask(["b", "c"])
        house.tell("t", 2)
        house.strike("b")
        house.make("a", read_recipe("peek put 't say row 1 got 0"))
        state = self.state(house)
        self.assertEqual(house.audit(), [])
        self.assertEqual(self.state(house), state)

    def test_what_is_told_is_the_asker_s_own(self):
        house = self.house(*self.ROWS)
        house.ask(["b"])
        house.tell("t", 2)
        told = house.audit()
        told.clear()
        self.assertEqual(house.log()[-2:], [("stale", "a"), ("stale", "b")])

    def test_a_row_that_comes_to_a_made_one(self):
        """Without an audit any result may be told then; no refusal comes."""
        for way in (lambda house, names: house.ask(names), lambda house, names: house.weave(names, [])):
            house = self.house("told t 1", "made a peek put 't when got 0 want put 'r say put 5 say put 1",
                               "made r say put 1")
            self.assertEqual(way(house, ["a"]), [("made", 5)])
            house.tell("t", 0)
            house.make("r", read_recipe("want put 'a say got 0"))
            told = house.ask(["a", "r", "t"])
            self.assertEqual([len(told), told[0], told[2]], [3, ("made", 1), ("made", 0)])
            self.assertEqual(house.held()["r"][1], things.line_by("r : wants a"))
            self.assertEqual(house.audit(), [])
            self.assertEqual(house.ask(["a", "r"]), [("made", 1)] * 2)


class AgainstOthers(Houses):
    def test_one_asking_is_as_bringing(self):
        source = things.source(195)
        for _ in range(150):
            book = things.book(source)
            names = things.asked_names(source, book)
            houses = [House(), House()]
            for house, other in zip(houses, (book, things.shuffled(source, book))):
                for name, value in other[0].items():
                    house.tell(name, value)
                for name, recipe in other[1].items():
                    house.make(name, recipe)
            self.assertEqual(houses[0].ask(names), [plain.result(book, name) for name in names])
            self.assertEqual(houses[0].held(), bring(book, {}, names)[0])
            turns = [source.randrange(9) for _ in range(20)]
            self.assertEqual(houses[1].weave(names, turns), [fresh(book, name) for name in names])


if __name__ == "__main__":
    unittest.main()
