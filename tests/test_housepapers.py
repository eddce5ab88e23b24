"""Points 98 and 99: papers of a house, what it checks and takes, sweeping, and what is the asker's own."""

import itertools
import unittest

import plain
import things
from redo.booktexts import read_book
from redo.checker import lets_by
from redo.errors import BadPaper, NoPaper, RedoError
from redo.held import paper_in
from redo.house import House
from redo.papers import paper_of
from redo.recipetexts import read_recipe, show_recipe

CAKE = ("told egg 1", "told milk 2", "made dough want put 'egg want put 'milk say sum got 0 got 1",
        "made cake want put 'dough say row 1 got 0", "made icing want put 'milk say got 0",
        "made burnt want put 'cake fail burnt", "made fancy want put 'icing want put 'burnt say put 1",
        "made sweet want put 'sugar say put 1")


class Houses(unittest.TestCase):
    def house(self, *rows):
        house = House()
        self.make(house, *rows)
        return house

    def make(self, house, *rows):
        told, made = read_book(list(rows))
        for name, value in told.items():
            house.tell(name, value)
        for name, recipe in made.items():
            house.make(name, recipe)

    def state(self, house):
        return repr((house.book(), house.held(), house.log(), house.faults(), house.shelf()))

    def paper(self, house, names, *lines):
        """A paper of just these lines is told, in an order as 53 asks for, with nothing changed."""
        state = self.state(house)
        told = house.paper(names)
        self.assertEqual(self.state(house), state)
        self.assertIs(type(told), list)
        self.assertEqual(sorted(told), sorted([things.line_by(line) for line in lines]))
        self.assertIs(plain.ordered(told), True)
        return told

    def no_paper(self, house, names, name):
        state = self.state(house)
        with self.assertRaises(RedoError) as caught:
            house.paper(names)
        self.assertIs(type(caught.exception), NoPaper)
        self.assertEqual(caught.exception.name, name)
        self.assertEqual(self.state(house), state)

    def bad(self, house, thing):
        """Refused with BadPaper, with nothing changed."""
        state = self.state(house)
        with self.assertRaises(RedoError) as caught:
            house.take(thing)
        self.assertIs(type(caught.exception), BadPaper)
        self.assertEqual(self.state(house), state)


class Papers(Houses):
    def test_of_held_lines(self):
        house = self.house(*CAKE)
        house.ask(["fancy", "sweet"])
        dough, cake, icing = "dough egg 1 milk 2 : made 3", "cake dough 3 : made (3)", "icing milk 2 : made 2"
        burnt, fancy, sweet = "burnt cake (3) : fails burnt", "fancy icing 2 : wants burnt", "sweet : wants sugar"
        for names, lines in ((["dough"], [dough]), (["cake"], [dough, cake]), (["icing"], [icing]),
                             (["burnt"], [dough, cake, burnt]), (["fancy"], [dough, cake, icing, burnt, fancy]),
                             (["sweet"], [sweet]), (["sweet", "icing", "sweet"], [icing, sweet]),
                             (["dough", "cake", "icing", "burnt", "fancy", "sweet"],
                              [dough, cake, icing, burnt, fancy, sweet])):
            told = self.paper(house, names, *lines)
            self.assertIs(house.check(told), True)
            self.assertIs(plain.let_by(house.book(), told), True)
            self.assertEqual(sorted(told), sorted(paper_of(house.book(), names)))
            self.assertEqual(sorted(told), sorted(paper_in(house.held(), names)))

    def test_of_told_and_lacking_names_and_of_none(self):
        for house in (House(), self.house(*CAKE)):
            self.paper(house, [])
            self.paper(house, ["egg", "zz", "egg", "", "no name at all"])
        house.ask(["icing"])
        self.paper(house, ["egg", "icing", "zz"], "icing milk 2 : made 2")

    def test_rings(self):
        house = self.house("made a want put 'b say put 1", "made b want put 'a say put 1", "made c want put 'c fail x")
        house.weave(["a", "c"], [])
        told = self.paper(house, ["b", "c"], "a : wants b", "b : wants a", "c : wants c")
        self.assertIs(house.check(told), True)

    def test_what_is_not_held(self):
        house = self.house(*CAKE)
        self.no_paper(house, ["cake"], "cake")
        self.no_paper(house, ["sweet", "fancy", "cake"], "cake")
        house.ask(["dough"])
        self.no_paper(house, ["cake"], "cake")
        self.no_paper(house, ["dough", "fancy", "icing"], "fancy")
        self.paper(house, ["dough"], "dough egg 1 milk 2 : made 3")

    def test_a_reached_one_that_is_not_held(self):
        house = self.house(*CAKE)
        house.ask(["fancy"])
        house.strike("dough")
        self.no_paper(house, ["cake"], "cake")
        self.make(house, CAKE[2])
        self.assertIs(house.check(house.paper(["cake"])), True)
        house.strike("burnt")
        house.sweep(["fancy"])
        self.make(house, CAKE[5])
        self.paper(house, ["cake"], "dough egg 1 milk 2 : made 3", "cake dough 3 : made (3)")

    def test_of_a_made_one_behind_a_wanted_one(self):
        """Wants at the end are followed, too."""
        house = self.house("made b want put 'a say put 1", "made a want put 'zz say put 1")
        house.ask(["b"])
        self.paper(house, ["b"], "a : wants zz", "b : wants a")
        house.make("a", read_recipe("fail x"))
        self.no_paper(house, ["b"], "a")
        house.ask(["a"])
        self.paper(house, ["b"], "a : fails x", "b : wants a")
        house.make("zz", read_recipe("say put 1"))
        self.paper(house, ["b"], "a : fails x", "b : wants a")

    def test_by_an_elder_recipe(self):
        """Also one by which the line is the same."""
        house = self.house(*CAKE)
        house.ask(["cake"])
        house.make("dough", read_recipe("want put 'egg want put 'milk say sum got 1 got 0"))
        self.no_paper(house, ["cake"], "dough")
        self.no_paper(house, ["dough"], "dough")
        house.ask(["dough"])
        self.paper(house, ["cake"], "dough egg 1 milk 2 : made 3", "cake dough 3 : made (3)")

    def test_lines_that_are_not_by_good_values(self):
        house = self.house("told t 1", "made c want put 't say got 0", "made b want put 'c say got 0",
                           "made d want put 'b say got 0", "made a say put 1")
        house.ask(["d", "a"])
        house.tell("t", 2)
        self.no_paper(house, ["d"], "b")
        self.no_paper(house, ["c"], "c")
        self.no_paper(house, ["a", "d"], "b")
        self.paper(house, ["a"], "a : made 1")
        house.ask(["b"])
        self.no_paper(house, ["d"], "d")
        self.no_paper(house, ["d", "c"], "d")
        self.paper(house, ["c", "b"], "b c 2 : made 2", "c t 2 : made 2")

    def test_reached_by_elder_lines(self):
        """What an elder line reads is reached, whether the book's recipe reads it or not."""
        house = self.house("told t 1", "made m want put 'b say got 0", "made b want put 't say got 0")
        house.ask(["m"])
        house.make("m", read_recipe("say put 1"))
        self.no_paper(house, ["m"], "m")
        house.tell("t", 2)
        self.no_paper(house, ["m"], "b")
        house.ask(["m"])
        self.paper(house, ["m"], "m : made 1")

    def test_the_least_of_many(self):
        names = things.names(30)
        house = self.house("told t 1", *[f"made {name} want put 't say got 0" for name in names])
        house.ask(names)
        self.assertEqual(len(house.paper(names)), 30)
        house.make(names[20], read_recipe("fail x"))
        house.make(names[7], read_recipe("fail x"))
        self.no_paper(house, names[::-1], names[7])
        self.no_paper(house, names[25:] + names[10:22], names[20])
        house.tell("t", 2)
        self.no_paper(house, names[::-1], names[0])

    def test_lines_of_names_that_the_book_does_not_make(self):
        """They are left out, and nothing is reached by them."""
        house = self.house("told t 1", "made q want put 'm say got 0", "made m want put 't say got 0",
                           "made a want put 'q say got 0")
        house.ask(["a"])
        house.strike("q")
        house.tell("t", 5)
        self.paper(house, ["q"])
        self.no_paper(house, ["a"], "a")
        self.no_paper(house, ["q", "m"], "m")
        house.tell("q", 7)
        house.ask(["a"])
        self.assertIn("q", house.held())
        told = self.paper(house, ["a", "q"], "a q 7 : made 7")
        self.assertIs(house.check(told), True)
        house.strike("q")
        house.ask(["a"])
        told = self.paper(house, ["a", "q"], "a : wants q")
        self.assertIs(house.check(told), True)

    def test_recipes_with_peeks(self):
        house = self.house("told t 1", "made a want put 't peek put 't say got 1", "made b want put 'a say got 0")
        house.ask(["b"])
        told = self.paper(house, ["b"], "a t 1 : made 1", "b a 1 : made 1")
        self.assertIs(house.check(told), False)
        self.make(house, "told s 3", "made a want put 's peek put 't say got 1")
        house.ask(["b"])
        house.tell("t", 9)
        self.no_paper(house, ["b"], "a")
        house.audit()
        self.no_paper(house, ["b"], "a")
        house.ask(["a"])
        self.no_paper(house, ["b"], "b")
        house.ask(["b"])
        self.paper(house, ["b"], "a s 3 : made 9", "b a 9 : made 9")

    def test_forty_names(self):
        names = things.names(40)
        rows = [f"made {one} want put '{other} say got 0" for one, other in zip(names, names[1:])]
        house = self.house(f"told {names[-1]} 3", *rows)
        house.ask(names[:1])
        told = house.paper(names[:1])
        self.assertEqual([line[0] for line in told], names[-2::-1])
        self.assertIs(house.check(told), True)


class Checks(Houses):
    def test_papers(self):
        house = self.house(*CAKE)
        self.assertIs(house.check([]), True)
        house.ask(["fancy"])
        told = house.paper(["fancy"])
        state = self.state(house)
        self.assertIs(house.check(told), True)
        self.assertIs(house.check(told[::-1]), False)
        self.assertIs(house.check(told + told[:1]), False)
        self.assertIs(house.check(told[1:]), False)
        self.assertIs(house.check(tuple(told)), False)
        self.assertEqual(self.state(house), state)
        house.tell("egg", 9)
        self.assertIs(house.check(told), False)
        self.assertIs(House().check(told), False)
        self.assertIs(House().check([]), True)

    def test_what_is_not_held_is_checked_too(self):
        house = self.house(*CAKE)
        self.assertIs(house.check([things.line_by("icing milk 2 : made 2")]), True)
        self.assertIs(house.check([things.line_by("icing milk 3 : made 3")]), False)
        self.assertEqual((house.held(), house.log()), ({}, []))

    def test_any_plain_thing(self):
        house = self.house(*CAKE)
        for thing in (None, True, 0, 7, "", "icing milk 2 : made 2", (), {}, {"a": 1}, [None], [()], [[]], [("icing",)],
                      ["icing milk 2 : made 2"], [("icing", [("milk", "2")], ("made", "2"))],
                      [["icing", (("milk", "2"),), ("made", "2")]], [("icing", (("milk", 2),), ("made", "2"))],
                      things.nested([], 50), [things.line_by("icing milk 2 : made 2")] * 101, [{}], [[[]]]):
            self.assertIs(house.check(thing), False, thing)
            self.bad(house, thing)


class Takes(Houses):
    def test_each_line_is_held(self):
        house, other = self.house(*CAKE), self.house(*CAKE[::-1])
        other.ask(["fancy", "sweet"])
        told = other.paper(["fancy", "sweet"])
        self.assertIsNone(house.take(told))
        self.assertEqual(house.held(), other.held())
        self.assertEqual((house.log(), house.shelf(), house.faults()), ([], [], []))
        self.assertEqual(house.book(), other.book())
        for names in (["fancy"], ["sweet", "cake"]):
            many = len(house.log())
            self.assertEqual(house.ask(names), [plain.result(house.book(), name) for name in names])
            self.assertEqual({word for word, _ in house.log()[many:]}, {"kept"})
        self.assertEqual(house.shelf(), [])

    def test_woven_behind_it(self):
        house = self.house(*CAKE)
        house.take(paper_of(house.book(), ["fancy"]))
        house.weave(["fancy"], [2, 1])
        self.assertEqual({word for word, _ in house.log()}, {"kept"})

    def test_of_no_line(self):
        for house in (House(), self.house(*CAKE)):
            state = self.state(house)
            self.assertIsNone(house.take([]))
            self.assertEqual(self.state(house), state)

    def test_in_the_place_of_elder_ones_and_beside_others(self):
        house = self.house(*CAKE)
        house.ask(["cake", "icing"])
        house.tell("egg", 5)
        house.make("icing", read_recipe("fail x"))
        held = house.held()
        house.take([things.line_by("dough egg 5 milk 2 : made 7"), things.line_by("icing : fails x")])
        held["dough"] = (show_recipe(house.book()[1]["dough"]), things.line_by("dough egg 5 milk 2 : made 7"))
        held["icing"] = ("fail x", things.line_by("icing : fails x"))
        self.assertEqual(house.held(), held)
        house.ask(["icing", "cake"])
        self.assertEqual(house.log()[3:], [("kept", "icing"), ("kept", "dough"), ("done", "cake")])

    def test_what_is_not_let_by(self):
        house = self.house(*CAKE)
        house.ask(["icing"])
        good = paper_of(house.book(), ["fancy"])
        for bad in (good[::-1], good[1:], good + good[:1], [things.line_by("egg : made 1")],
                    [things.line_by("icing milk 3 : made 3")], [things.line_by("zz : made 3")],
                    [things.line_by("sweet : wants egg")], good + [things.line_by("sweet : made 1")], tuple(good),
                    {line[0]: line for line in good}):
            self.bad(house, bad)
        house.take(good)

    def test_recipes_with_peeks(self):
        """Only what comes to its end without one can be shown."""
        house = self.house("told t 0", "made a want put 't when got 0 peek put 't say got 1 say put 9",
                           "made b peek put 't say put 1")
        self.bad(house, [things.line_by("b : made 1")])
        house.take([things.line_by("a t 0 : made 9")])
        house.ask(["a"])
        self.assertEqual(house.log(), [("kept", "a")])
        house.tell("t", 1)
        self.bad(house, [things.line_by("a t 1 : made 1")])

    def test_what_is_done_to_the_paper_later(self):
        house = self.house(*CAKE)
        paper = paper_of(house.book(), ["cake"])
        given = list(paper)
        house.take(paper)
        self.assertEqual(paper, given)
        held = house.held()
        paper.clear()
        self.assertEqual(house.held(), held)

    def test_drawn_papers_of_one_house_taken_by_another(self):
        source = things.source(198)
        seen = 0
        for _ in range(200):
            book = source.choice([things.book, things.busy])(source, things.HONEST)
            one, other = House(), House()
            for house, same in ((one, book), (other, things.shuffled(source, book))):
                for name, value in same[0].items():
                    house.tell(name, value)
                for name, recipe in same[1].items():
                    house.make(name, recipe)
            names = things.asked_names(source, book)
            told = one.ask(names)
            paper = one.paper(names)
            self.assertIs(lets_by(book, paper), True)
            other.take(paper)
            self.assertEqual(other.held(), one.held())
            self.assertEqual(other.ask(names), told)
            self.assertEqual(other.log(), [("kept", name) for _, name in one.log()])
            self.assertEqual(sorted(other.paper(names)), sorted(paper))
            seen += len(paper)
        self.assertGreater(seen, 200)


class Sweeps(Houses):
    def swept(self, house, roots, wanted):
        held = house.held()
        rest = (house.book(), house.log(), house.faults(), house.shelf())
        self.assertIsNone(house.sweep(roots))
        self.assertEqual(house.held(), {name: held[name] for name in wanted.split()})
        self.assertEqual((house.book(), house.log(), house.faults(), house.shelf()), rest)

    def filled(self):
        house = self.house(*CAKE)
        house.ask(["fancy", "sweet"])
        return house

    def test_by_roots(self):
        self.swept(self.filled(), ["cake"], "dough cake")
        self.swept(self.filled(), ["cake", "egg", "zz", "cake", "sweet"], "dough cake sweet")
        self.swept(self.filled(), ["fancy"], "dough cake icing burnt fancy")
        self.swept(self.filled(), ["egg", "zz"], "")
        self.swept(self.filled(), [], "")
        self.swept(House(), ["a"], "")

    def test_by_held_lines_of_names_that_the_book_does_not_make(self):
        """All that is held is reached by, also where the book has changed."""
        house = self.filled()
        house.strike("cake")
        house.tell("burnt", 1)
        self.swept(house, ["burnt"], "burnt cake dough")
        self.swept(house, ["cake"], "cake dough")

    def test_a_paper_of_roots_is_as_it_was(self):
        house = self.filled()
        paper = sorted(house.paper(["burnt", "sweet"]))
        house.sweep(["burnt", "sweet"])
        self.assertEqual(sorted(house.paper(["burnt", "sweet"])), paper)
        house.ask(["burnt", "sweet"])
        self.assertEqual({word for word, _ in house.log()[6:]}, {"kept"})


class Own(Houses):
    """What is told is the asker's own; two houses have nothing in common."""

    def filled(self):
        house = self.house("told t 1", "made a want put 't say got 0", "made p peek put 't say got 0")
        house.ask(["a", "p"])
        house.tell("t", 2)
        house.audit()
        house.ask(["a", "p"])
        return house

    def test_what_is_told_can_be_changed(self):
        house = self.filled()
        state = self.state(house)
        self.assertEqual(len(house.faults()), 1)
        house.book()[0].clear()
        house.book()[1]["zz"] = ("fail", "x")
        house.held().clear()
        house.held()["zz"] = 1
        for told in (house.log(), house.faults(), house.shelf(), house.paper(["a"]), house.paper(["a", "p"])):
            self.assertNotEqual(told, [])
            told.clear()
        self.assertEqual(self.state(house), state)
        house.ask(["a"]).clear()
        house.weave(["a"], []).clear()
        house.ask(["a"]).append(1)
        self.assertEqual(house.log()[-1], ("kept", "a"))

    def test_nothing_done_later_changes_it(self):
        house = self.filled()
        told = (house.book(), house.held(), house.log(), house.faults(), house.shelf(), house.paper(["a", "p"]),
                house.ask(["a"]), house.weave(["p"], []), house.audit())
        shown = repr(told)
        house.tell("t", 3)
        house.make("p", ("fail", "x"))
        house.make("b", ("fail", "x"))
        house.ask(["a", "b", "p"])
        house.strike("p")
        house.sweep([])
        house.weave(["a"], [])
        self.assertEqual(repr(told), shown)

    def test_two_houses(self):
        one, other = self.filled(), House()
        self.assertEqual(self.state(other), self.state(House()))
        state = self.state(one)
        other.tell("t", 7)
        other.make("a", read_recipe("want put 't say got 0"))
        other.ask(["a"])
        self.assertEqual(other.log(), [("done", "a")])
        other.sweep([])
        other.strike("a")
        self.assertEqual(self.state(one), state)


class Orders(Houses):
    """Nothing hangs on the order in which names are told and made (99)."""

    def test_all_orders_of_a_small_book(self):
        rows = ("told t 1", "made a want put 'b want put 'c say got 0", "made b peek put 't say got 0",
                "made c want put 'd fail x", "made d want put 'c say put 1")
        wanted = None
        for some in itertools.permutations(rows):
            house = self.house(*some)
            told = [house.ask(["d", "a"]), house.weave(["c", "b", "a"], [3, 1]), house.audit(), house.paper(["a"])]
            told += [house.held(), house.log(), house.shelf(), house.faults(), house.book()]
            house.tell("t", 2)
            told += [house.audit(), house.weave(["a"], [1, 1, 1]), house.log(), house.shelf(), house.faults()]
            wanted = wanted or told
            self.assertEqual(told, wanted)

    def test_by_detours(self):
        """Told and made otherwise ahead, or struck and told again: with the same book the same is told and done."""
        source = things.source(199)
        for _ in range(100):
            book = things.busy(source, things.PEEKING)
            one, other = House(), House()
            names = sorted([*book[0], *book[1]])
            again = source.choices(names, k=20) + source.sample(names, len(names))
            for house, rounds in ((one, names), (other, again)):
                for name in rounds:
                    house.make(name, ("fail", "detour"))
                    house.tell(name, 77)
                    if source.random() < 0.5:
                        house.strike(name)
                    house.tell(name, book[0][name]) if name in book[0] else house.make(name, book[1][name])
            self.assertEqual(one.book(), other.book())
            for _ in range(3):
                asked = things.asked_names(source, book)
                turns = [source.randrange(9) for _ in range(20)]
                self.assertEqual(one.ask(asked), other.ask(asked))
                self.assertEqual(one.weave(asked, turns), other.weave(asked, turns))
                for told in ("held", "log", "shelf", "faults"):
                    self.assertEqual(getattr(one, told)(), getattr(other, told)())
                value = source.choice([0, 1, "a"])
                one.tell("i", value)
                other.tell("i", value)
                self.assertEqual(one.audit(), other.audit())

    def test_with_other_elder_rows_of_the_log(self):
        """The same book, held, shelf and watch, come to by other ways: what is told and done is the same."""
        rows = ("told t 1", "made a want put 't say got 0", "made b want put 'a say got 0")
        one, other = self.house(*rows), self.house(*rows)
        one.ask(["b"])
        other.ask(["a"])
        other.weave(["b"], [])
        other.ask(["b", "a"])
        self.assertEqual((one.held(), one.shelf(), one.faults()), (other.held(), other.shelf(), other.faults()))
        many = len(one.log()), len(other.log())
        for house in (one, other):
            house.tell("t", 2)
        self.assertEqual(one.ask(["a", "b"]), other.ask(["a", "b"]))
        self.assertEqual(one.log()[many[0]:], other.log()[many[1]:])
        self.assertEqual((one.held(), one.shelf()), (other.held(), other.shelf()))


if __name__ == "__main__":
    unittest.main()
