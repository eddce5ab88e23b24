"""Points 3 and 30: what a book is, its names, their sorts, and whether it is honest."""

import copy
import unittest

import things
from redo.books import is_book, is_honest_book, names_of, sort_at

SAY = ("say", ("put", 1))
FAIL = ("fail", "sour")
PEEK = ("peek", ("put", "a"), SAY)
WANT = ("want", ("put", "peek"), ("say", ("got", 0)))
SIXTY = ("say", things.expr_of(59))


class Told(unittest.TestCase):
    def yes(self, *given):
        for at, thing in enumerate(given):
            with self.subTest(at=at):
                self.assertIs(is_book(thing), True)

    def no(self, *given):
        for at, thing in enumerate(given):
            with self.subTest(at=at):
                self.assertIs(is_book(thing), False)

    def test_books(self):
        self.yes(({}, {}), ({"a": 1}, {}), ({}, {"a": SAY}), ({"a": 1}, {"b": SAY}))
        self.yes(({"b": ""}, {"a": FAIL, "c": PEEK}))
        self.yes(({"a": things.FORTY, "zzzzzzzz": "x" * 20, "c": ()}, {"b": SIXTY, "d": WANT}))

    def test_not_two(self):
        self.no((), ({},), ({}, {}, {}), ({"a": 1},), ({"a": 1}, {"b": SAY}, {}))

    def test_no_tuple_and_no_dicts(self):
        self.no([{}, {}], {}, {"a": 1}, ([], []), ({}, []), ([], {}), ({}, ()), ((), {}), ({}, None), (None, {}), "ab")
        self.no(({}, [("a", SAY)]), ((("a", 1),), {}), ({}, "a"), ({}, 0), (0, {}), (True, False), None, 0, 12, True)

    def test_keys_that_are_no_names(self):
        for key in ("", "A", "a1", "abcdefghi", "a b", "a\n", "-", 0, 1, None, True, ("a",), (), ("a", "b"), -7):
            self.no(({key: 1}, {}), ({}, {key: SAY}), ({"a": 1, key: 1}, {"b": SAY}), ({"a": 1}, {"b": SAY, key: SAY}))

    def test_what_is_told_is_a_value(self):
        for thing in (
            None, True, False, "A", "x" * 21, 10 ** 18 + 1, [], [1], {}, (True,), (0,) * 9, things.nested(0, 5),
            things.FORTY + (0,),
        ):
            self.no(({"a": thing}, {}), ({"b": 1, "a": thing}, {"c": SAY}))
        self.no(({"a": ("say", ("put", [1]))}, {}))
        # The tuples of this recipe are rows of texts and numbers: a value, too.
        self.yes(({"a": SAY}, {}), ({"a": FAIL}, {}))

    def test_what_is_made_has_a_recipe(self):
        for thing in (
            None, True, 1, "", "say", (), ("put", 1), ("say",), ["say", ("put", 1)], ("say", ("got", 0)), {}, [SAY],
        ):
            self.no(({}, {"a": thing}), ({"c": 1}, {"b": SAY, "a": thing}))
        self.no(({}, {"a": ("say", things.expr_of(60))}), ({}, {"a": ("say", things.chain(20))}))
        self.no(({}, {"a": "say put 1"}))
        self.no(({}, {"a": things.asking(["want"] * 13, FAIL)}), ({}, {"a": 0, "b": SAY}))

    def test_told_and_made_are_not_taken_for_one_another(self):
        self.no(({"a": PEEK + ([],)}, {}), ({"b": SAY}, {"a": 1}), ({}, {"a": things.FORTY}))

    def test_no_name_in_both(self):
        self.no(({"a": 1}, {"a": SAY}), ({"a": 1, "b": 2}, {"c": SAY, "b": SAY}))
        self.no(({"a": 1, "b": 2}, {"b": FAIL, "a": FAIL}))
        self.yes(({"a": 1}, {"aa": SAY}), ({"ab": 1}, {"a": SAY, "b": SAY}))

    def test_forty_and_forty_one_names(self):
        for told in (0, 1, 20, 39, 40):
            self.yes(things.book_of(told, 40 - told))
            self.no(things.book_of(told, 41 - told), things.book_of(told + 1, 40 - told))
            self.no(things.book_of(told, 45 - told))

    def test_other_kinds(self):
        for thing in things.odd_things():
            self.no(thing, (thing,), (thing, {}, {}), ({"a": thing}, {}), ({}, {"a": thing}))
            if not isinstance(thing, dict):
                self.no((thing, thing), (thing, {"a": SAY}), ({"a": 1}, thing), (thing, {}), ({}, thing))

    def test_any_order_of_keys(self):
        source = things.source(30)
        for many in (39, 40, 41):
            found = things.names(many)
            source.shuffle(found)
            self.assertIs(is_book((dict.fromkeys(found[:20], 1), dict.fromkeys(found[20:], SAY))), many <= 40)

    def test_nothing_is_changed(self):
        for thing in (
            ({"a": [1]}, {"b": SAY}), ({"b": 1, "a": 2}, {"d": SAY, "c": FAIL}), [{}, {"a": [1]}], ({1: 2}, {"a": SAY}),
            ({"a": {"b": []}}, {}), ({}, {"a": ["say", ("put", 1)]}), ({"a": 1}, {"a": SAY}),
        ):
            kept = copy.deepcopy(thing)
            is_book(thing)
            self.assertEqual(repr(thing), repr(kept))


class Names(unittest.TestCase):
    def test_names_of(self):
        for book, wanted in (
            (({}, {}), []), (({"b": 1, "a": 2}, {}), ["a", "b"]), (({}, {"c": SAY, "a": FAIL}), ["a", "c"]),
            (({"d": 1, "b": 2}, {"c": SAY, "a": FAIL, "e": SAY}), ["a", "b", "c", "d", "e"]),
            (({"ab": 1, "b": 1}, {"a": SAY, "aa": SAY, "abc": SAY}), ["a", "aa", "ab", "abc", "b"]),
        ):
            self.assertEqual(names_of(book), wanted)
            self.assertIs(type(names_of(book)), list)
        self.assertEqual(names_of(things.book_of(13, 27)), things.names(40))

    def test_they_are_the_asker_s_own(self):
        book = ({"b": 1}, {"a": SAY})
        told = names_of(book)
        told.append("z")
        self.assertEqual(names_of(book), ["a", "b"])
        self.assertEqual(repr(book), repr(({"b": 1}, {"a": SAY})))
        later = names_of(book)
        book[0]["c"] = 2
        self.assertEqual(later, ["a", "b"])

    def test_sort_at(self):
        book = ({"b": 0, "told": ""}, {"a": SAY, "made": FAIL, "lacks": SAY})
        for name, sort in (
            ("b", "told"), ("told", "told"), ("a", "made"), ("made", "made"), ("lacks", "made"), ("c", "lacks"),
        ):
            self.assertEqual(sort_at(book, name), sort)
        for name in ("", "A", "say", "no name at all", "x" * 100, "say put 1", "1", "'b"):
            self.assertEqual(sort_at(book, name), "lacks")
            self.assertEqual(sort_at(({}, {}), name), "lacks")
        self.assertEqual(repr(book), repr(({"b": 0, "told": ""}, {"a": SAY, "made": FAIL, "lacks": SAY})))


class Honest(unittest.TestCase):
    def test_where_all_its_recipes_are(self):
        for book in (
            ({}, {}), ({"a": "peek"}, {}), ({"a": PEEK}, {}), ({}, {"a": SAY}), ({"peek": 1}, {"a": WANT, "b": FAIL}),
            ({}, {"peek": ("want", ("put", "peek"), ("fail", "peek"))}),
        ):
            self.assertIs(is_honest_book(book), True)

    def test_where_one_is_not(self):
        for book in (
            ({}, {"a": PEEK}), ({"b": 1}, {"a": SAY, "c": PEEK, "d": SAY}),
            ({}, {"a": SAY, "b": ("want", ("put", "c"), PEEK)}),
            ({}, {"a": ("when", ("put", 0), PEEK, SAY), "b": SAY}), ({}, {"a": PEEK, "b": PEEK}),
        ):
            kept = copy.deepcopy(book)
            self.assertIs(is_honest_book(book), False)
            self.assertEqual(repr(book), repr(kept))


if __name__ == "__main__":
    unittest.main()
