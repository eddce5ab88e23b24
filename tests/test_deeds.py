"""Points 59 and 60: books told again, and the names that differ between two."""

import copy
import unittest

import things
from redo.books import is_book, sort_at
from redo.booktexts import read_book
from redo.deeds import differing, made_with, told_with, without
from redo.errors import NoName, NoRecipe, NoThing, NoValue, RedoError, TooMany

SAY = ("say", ("put", 1))
NO_NAMES = ["", "A", "abcdefghi", "a1", "a ", " a", "a-", "\n", "a\n", 0, 7, ("a",), (), things.nested("a", 3)]
NO_VALUES = ["A", "x" * 21, "a b", 10 ** 18 + 1, -10 ** 18 - 1, (1,) * 9, things.nested(1, 5), (None,), ([],),
             things.FORTY + (1,), (True,), things.shared(1, 30)]
NO_RECIPES = ["say put 1", 1, (), ("say",), ("say", 1), ("fail", "A"), ("say", ("got", 0)), ["say", ("put", 1)],
              ("want", ("put", "a")), SAY + SAY, ("when", ("put", 1), SAY), things.asking(("want",) * 13, SAY),
              things.nested(SAY, 1), things.shared(SAY, 40)]


def full():
    """A book of forty names, half of them told."""
    return things.book_of(20, 20)


class Deeds(unittest.TestCase):
    def refused(self, kind, deed, *given):
        with self.subTest(kind=kind):
            book = given[0]
            kept = repr(book)
            with self.assertRaises(RedoError) as caught:
                deed(*given)
            self.assertIs(type(caught.exception), kind)
            self.assertEqual(repr(book), kept)

    def done(self, deed, *given):
        """A new book, of its own, that which was handed in being as it was."""
        book = given[0]
        kept = copy.deepcopy(book)
        told = deed(*given)
        self.assertEqual(repr(book), repr(kept))
        self.assertIs(is_book(told), True)
        again = copy.deepcopy(told)
        told[0].clear()
        told[1].clear()
        self.assertEqual(repr(book), repr(kept))
        self.assertEqual(deed(*given), again)
        return again


class ToldWith(Deeds):
    def tells(self, rows, name, value, wanted):
        self.assertEqual(self.done(told_with, read_book(rows), name, value), read_book(wanted))

    def test_a_new_name(self):
        self.tells([], "a", 1, ["told a 1"])
        self.tells(["told b 2", "made c say put 1"], "a", (1, "x"), ["told a (1,'x)", "told b 2", "made c say put 1"])
        self.tells([], "abcdefgh", "", ["told abcdefgh '"])

    def test_in_the_place_of_a_told_one(self):
        self.tells(["told a 1", "told b 2"], "a", 5, ["told a 5", "told b 2"])
        self.tells(["told a 1"], "a", 1, ["told a 1"])

    def test_in_the_place_of_a_made_one(self):
        self.tells(["made a say put 1", "made b fail x"], "a", 5, ["told a 5", "made b fail x"])

    def test_each_kind_of_value(self):
        for value in (0, -1, 10 ** 18, -10 ** 18, "", "a-7", "x" * 20, (), things.FORTY, things.nested(1, 4)):
            told = self.done(told_with, ({}, {}), "a", value)
            self.assertEqual(repr(told), repr(({"a": value}, {})))

    def test_a_fortieth_and_a_forty_first(self):
        book = without(full(), "aa")
        self.assertEqual(len(self.done(told_with, book, "zz", 1)[0]), 20)
        self.refused(TooMany, told_with, full(), "zz", 1)
        for name in ("aa", "bn"):
            told = self.done(told_with, full(), name, 5)
            self.assertEqual(told[0][name], 5)
            self.assertNotIn(name, told[1])
            self.assertEqual(len(told[0]) + len(told[1]), 40)

    def test_no_name(self):
        for thing in things.odd_things() + NO_NAMES:
            for book in (({}, {}), full()):
                self.refused(NoName, told_with, book, thing, 1)

    def test_no_value(self):
        for thing in things.odd_things() + NO_VALUES:
            for name in ("a", "aa", "bn"):
                self.refused(NoValue, told_with, read_book(["told aa 1", "made bn fail x"]), name, thing)

    def test_several(self):
        for thing in things.odd_things():
            self.refused(NoName, told_with, full(), thing, thing)
            self.refused(NoName, told_with, full(), "A", thing)
            self.refused(NoValue, told_with, full(), "zz", thing)
        self.refused(NoName, told_with, full(), "", None)


class MadeWith(Deeds):
    def makes(self, rows, name, recipe, wanted):
        self.assertEqual(self.done(made_with, read_book(rows), name, recipe), read_book(wanted))

    def test_a_new_name(self):
        self.makes([], "a", SAY, ["made a say put 1"])
        self.makes(["told b 2", "made c say put 1"], "a", ("fail", "x"),
                   ["made a fail x", "told b 2", "made c say put 1"])

    def test_in_the_place_of_a_told_one(self):
        self.makes(["told a 1", "told b 2"], "a", SAY, ["made a say put 1", "told b 2"])

    def test_in_the_place_of_a_made_one(self):
        self.makes(["made a fail x", "made b fail x"], "a", SAY, ["made a say put 1", "made b fail x"])
        self.makes(["made a say put 1"], "a", SAY, ["made a say put 1"])

    def test_recipes_of_many_kinds(self):
        source = things.source(59)
        for _ in range(100):
            recipe = things.right_recipe(source, 6)
            self.assertEqual(self.done(made_with, ({}, {}), "a", recipe), ({}, {"a": recipe}))
        recipe = things.asking(("want", "peek") * 6, SAY, "a")
        self.assertEqual(self.done(made_with, ({}, {}), "a", recipe), ({}, {"a": recipe}))

    def test_a_fortieth_and_a_forty_first(self):
        book = without(full(), "bn")
        self.assertEqual(len(self.done(made_with, book, "zz", SAY)[1]), 20)
        self.refused(TooMany, made_with, full(), "zz", SAY)
        for name in ("aa", "bn"):
            told = self.done(made_with, full(), name, ("fail", "x"))
            self.assertEqual(told[1][name], ("fail", "x"))
            self.assertNotIn(name, told[0])
            self.assertEqual(len(told[0]) + len(told[1]), 40)

    def test_no_name(self):
        for thing in things.odd_things() + NO_NAMES:
            for book in (({}, {}), full()):
                self.refused(NoName, made_with, book, thing, SAY)

    def test_no_recipe(self):
        for thing in things.odd_things() + NO_RECIPES:
            for name in ("a", "aa", "bn"):
                self.refused(NoRecipe, made_with, read_book(["told aa 1", "made bn fail x"]), name, thing)

    def test_several(self):
        for thing in things.odd_things():
            self.refused(NoName, made_with, full(), thing, thing)
            self.refused(NoName, made_with, full(), "A", thing)
            self.refused(NoRecipe, made_with, full(), "zz", thing)
        self.refused(NoName, made_with, full(), "", None)


class Without(Deeds):
    def test_a_told_and_a_made_one(self):
        book = read_book(["told a 1", "told b 2", "made c fail x", "made d say put 1"])
        self.assertEqual(self.done(without, book, "a"), read_book(["told b 2", "made c fail x", "made d say put 1"]))
        self.assertEqual(self.done(without, book, "d"), read_book(["told a 1", "told b 2", "made c fail x"]))
        self.assertEqual(self.done(without, read_book(["told a 1"]), "a"), ({}, {}))
        self.assertEqual(self.done(without, full(), "bn")[0], full()[0])

    def test_what_the_book_has_not(self):
        self.refused(NoThing, without, ({}, {}), "a")
        self.refused(NoThing, without, read_book(["told a 1", "made b want put 'c say put 1"]), "c")
        self.refused(NoThing, without, full(), "zz")

    def test_no_name(self):
        for thing in things.odd_things() + NO_NAMES:
            for book in (({}, {}), full()):
                self.refused(NoName, without, book, thing)


class AnyDeeds(Deeds):
    def test_a_row_of_deeds(self):
        """What each deed tells is as a dict of all things has it."""
        source = things.source(60)
        for _ in range(60):
            book, plainly = ({}, {}), {}
            for _ in range(25):
                name = source.choice("abcdefgh")
                way = source.choice(["told", "made", "without"])
                thing = things.value(source, 1) if way == "told" else things.right_recipe(source, 4)
                if way == "without" and name not in plainly:
                    self.refused(NoThing, without, book, name)
                    continue
                if way == "without":
                    elder, book = book, without(book, name)
                    plainly.pop(name)
                else:
                    elder, book = book, (told_with if way == "told" else made_with)(book, name, thing)
                    plainly[name] = (way, thing)
                found = {one: (sort_at(book, one), book[0].get(one, book[1].get(one))) for one in [*book[0], *book[1]]}
                self.assertEqual(found, plainly)
                self.assertIn(differing(elder, book), ([], [name]))


class Differing(unittest.TestCase):
    def differ(self, one, other, wanted):
        one, other = read_book(one), read_book(other)
        kept = repr((one, other))
        for told in (differing(one, other), differing(other, one)):
            self.assertEqual(told, wanted)
            self.assertIs(type(told), list)
        self.assertEqual(repr((one, other)), kept)
        self.assertEqual(differing(one, one), [])
        self.assertEqual(differing(other, copy.deepcopy(other)), [])

    def test_nothing(self):
        self.differ([], [], [])
        self.differ(["told a 1", "made b fail x"], ["made b fail x", "told a 1"], [])

    def test_what_one_has_and_the_other_has_not(self):
        self.differ(["told a 1"], [], ["a"])
        self.differ(["made a fail x"], [], ["a"])
        self.differ(["told c 1", "made a fail x", "told z 1"], ["told z 1", "told b 2"], ["a", "b", "c"])

    def test_unlike_values(self):
        self.differ(["told a 1", "told b 1", "told c 1"], ["told a 2", "told b 1", "told c '1"], ["a", "c"])
        self.differ(["told a ()", "told b (1)", "told c 0"], ["told a '", "told b 1", "told c '"], ["a", "b", "c"])
        self.differ(["told a 0"], ["told a -1"], ["a"])

    def test_unlike_recipes(self):
        self.differ(["made a say put 1", "made b fail x"], ["made a say put 2", "made b fail x"], ["a"])
        self.differ(["made a want put 'b say put 1"], ["made a peek put 'b say put 1"], ["a"])
        self.differ(["made a say row 0"], ["made a say put ()"], ["a"])

    def test_told_in_one_and_made_in_the_other(self):
        self.differ(["told a 1", "made b say put 1"], ["made a say put 1", "told b 1"], ["a", "b"])
        self.assertEqual(differing(({"a": ("fail", "x")}, {}), ({}, {"a": ("fail", "x")})), ["a"])
        self.assertEqual(differing(({}, {"a": ("fail", "x")}), ({"a": ("fail", "x")}, {})), ["a"])

    def test_a_rising_list(self):
        names = things.names(40)
        rows = [f"told {name} 1" for name in names]
        self.differ(rows[::-1], [], names)
        self.differ(rows[::-1], [f"told {name} 2" for name in names], names)
        self.differ(rows[::-1], rows[1:], names[:1])
        self.differ(rows[:20][::-1], rows[20:][::-1], names)

    def test_any(self):
        source = things.source(61)
        seen = 0
        for _ in range(400):
            one = things.book(source)
            other = things.changed(source, one)
            wanted = []
            for name in things.NAMES:
                texts = [[repr(part.get(name)) for part in book] for book in (one, other)]
                if texts[0] != texts[1]:
                    wanted.append(name)
            self.assertEqual(differing(one, other), wanted)
            self.assertEqual(differing(things.shuffled(source, other), one), wanted)
            seen += len(wanted)
        self.assertGreater(seen, 200)

    def test_what_is_told_is_the_asker_s_own(self):
        one = read_book(["told a 1"])
        differing(one, ({}, {})).clear()
        self.assertEqual(differing(one, ({}, {})), ["a"])


if __name__ == "__main__":
    unittest.main()
