"""Points 32 to 34: good things, the lines of made ones, and what a fresh making gives."""

import copy
import itertools
import unittest

import plain
import things
from redo.books import is_book, names_of
from redo.booktexts import read_book
from redo.errors import NotMade, RedoError
from redo.making import fresh, good_values, line_of
from redo.stamps import stamp_of


def wanting(name, other):
    return f"made {name} want put '{other} say got 0"


def all_orders(book):
    """The same book, its dicts filled in each order."""
    for told in itertools.permutations(book[0].items()):
        for made in itertools.permutations(book[1].items()):
            yield (dict(told), dict(made))


class Making(unittest.TestCase):
    def same(self, told, wanted):
        self.assertEqual(told, wanted)
        self.assertEqual(repr(told), repr(wanted))

    def good(self, rows, wanted):
        """Just these are good, in whatever order the book's dicts are filled."""
        with self.subTest(rows=rows):
            book = read_book(rows)
            for same in all_orders(book) if len(rows) < 6 else [book, read_book(rows[::-1])]:
                told = good_values(same)
                self.assertIs(type(told), dict)
                self.same(sorted(told.items()), sorted(wanted.items()))


class Good(Making):
    def test_told_things(self):
        self.good([], {})
        self.good(["told a 7"], {"a": 7})
        self.good(["told a 0", "told b '", "told c ()", "told d (1,(2,'x))"],
                  {"a": 0, "b": "", "c": (), "d": (1, (2, "x"))})
        self.good(["told a " + stamp_of(things.FORTY), "told zzzzzzzz -1000000000000000000"],
                  {"a": things.FORTY, "zzzzzzzz": -10 ** 18})

    def test_what_says(self):
        self.good(["made a say put 5"], {"a": 5})
        self.good(["made a say row 2 put 'x put ()", "made b when put 0 fail x say put 1"], {"a": ("x", ()), "b": 1})

    def test_by_wants_and_peeks_of_good_things(self):
        for word in ("want", "peek"):
            self.good([f"made b {word} put 'a say sum got 0 put 1", "told a 4"], {"a": 4, "b": 5})
            self.good(
                [f"made {one} {word} put '{other} say sum got 0 put 1" for one, other in ("ab", "bc", "cd")]
                + ["told d 1"],
                {"a": 4, "b": 3, "c": 2, "d": 1},
            )
            self.good(
                ["made a say put 2", f"made b {word} put 'a {word} put 'a say sum got 0 got 1"], {"a": 2, "b": 4}
            )
        self.good(
            ["told a 1", "made b say put 2", "made c want put 'a peek put 'b want put 'b say row 3 got 2 got 1 got 0"],
            {"a": 1, "b": 2, "c": (2, 2, 1)},
        )

    def test_the_name_may_be_got(self):
        self.good(["told a 'c", "made b want put 'a want got 0 say got 1", "made c say put 9"],
                  {"a": "c", "b": 9, "c": 9})
        self.good(["told a 'd", "made b want put 'a want got 0 say got 1", "made c say put 9"], {"a": "d", "c": 9})

    def test_what_fails_is_not_good(self):
        for text in (
            "fail sour", "say many put 7", "say sum put 1 put '", "when many put 0 say put 1 say put 2",
            "want put 7 say put 1", "want put 'a1 say put 1", "peek put 7 say put 1", "peek put ' say put 1",
            "want put 'b want got 0 say put 1", "want put 'b fail sour", "peek put 'b say part got 0 put 0",
            "want many put 5 say put 1",
        ):
            self.good(["made a " + text, "told b 0"], {"b": 0})

    def test_what_lacks_is_not_good(self):
        self.good(["made a want put 'b say put 1"], {})
        self.good(["made a peek put 'b say put 1", "told c 1"], {"c": 1})

    def test_what_wants_what_is_not_good(self):
        for word in ("want", "peek"):
            self.good(["made a fail sour", f"made b {word} put 'a say put 1", f"made c {word} put 'b say put 2"], {})
            self.good(["told d 1", f"made b want put 'd {word} put 'z say put 1", f"made c {word} put 'b say put 2"],
                      {"d": 1})
            self.good([f"made a {word} put 'b say put 1", "made b want put 'c say put 1", "made c fail x",
                       "told e 1"], {"e": 1})

    def test_what_goes_round(self):
        for word in ("want", "peek"):
            self.good([f"made a {word} put 'a say put 1"], {})
            self.good([f"made a {word} put 'b say put 1", "made b want put 'a say put 1"], {})
            self.good([f"made a {word} put 'b say put 1", "made b want put 'c say put 1",
                       "made c peek put 'a say put 1",
                       f"made d {word} put 'a say put 1", "made e say put 1"], {"e": 1})

    def test_what_would_go_round_but_does_not(self):
        rows = ["made a want put 's when got 0 want put 'b say put 'ab say put 'a",
                "made b want put 's when got 0 say put 'b want put 'a say put 'ba"]
        self.good(rows + ["told s 1"], {"s": 1, "a": "ab", "b": "b"})
        self.good(rows + ["told s 0"], {"s": 0, "a": "a", "b": "ba"})
        self.good(rows + ["made s fail x"], {})
        self.good(["made a when put 1 say put 1 want put 'a say put 2"], {"a": 1})
        self.good(["made a want put 'b when got 0 say put 1 want put 'a say put 2", "told b 1"], {"a": 1, "b": 1})
        self.good(["made a want put 'b when got 0 say put 1 want put 'a say put 2", "told b 0"], {"b": 0})

    def test_rows_of_forty(self):
        names = things.names(40)
        rows = [wanting(one, other) for one, other in zip(names, names[1:])]
        self.good(rows + [f"told {names[-1]} 3"], dict.fromkeys(names, 3))
        self.good(rows + [f"made {names[-1]} say put 3"], dict.fromkeys(names, 3))
        self.good(rows + [f"made {names[-1]} fail x"], {})
        self.good(rows + [wanting(names[-1], names[0])], {})
        self.good([wanting(other, one) for one, other in zip(names, names[1:])] + [f"told {names[0]} 3"],
                  dict.fromkeys(names, 3))


class Lines(Making):
    def line(self, rows, wanted):
        with self.subTest(rows=rows):
            book = read_book(rows)
            self.same(line_of(book, wanted[0]), wanted)
            self.same(line_of(read_book(rows[::-1]), wanted[0]), wanted)

    def refused(self, book, name):
        kept = copy.deepcopy(book)
        with self.assertRaises(NotMade) as caught:
            line_of(book, name)
        self.assertEqual(caught.exception.name, name)
        self.assertIs(type(caught.exception.name), str)
        self.assertIs(type(caught.exception), NotMade)
        self.assertIsInstance(caught.exception, RedoError)
        self.assertEqual(repr(book), repr(kept))

    def test_without_reads(self):
        self.line(["made a say put 5"], ("a", (), ("made", "5")))
        self.line(["made a say put ('x,(),-1)"], ("a", (), ("made", "('x,(),-1)")))
        self.line(["made a say put '"], ("a", (), ("made", "'")))
        self.line(["made a fail sour"], ("a", (), ("fails", "sour")))
        self.line(["made a say many put 1"], ("a", (), ("fails", "kind")))
        self.line(["made a want put 'zz say put 1"], ("a", (), ("wants", "zz")))
        self.line(["made a peek put 'zz say put 1"], ("a", (), ("wants", "zz")))
        self.line(["made a want put 1 say put 1"], ("a", (), ("fails", "name")))

    def test_reads_in_their_order(self):
        rows = ["told b 2", "told c 'c", "made d say put (1)"]
        self.line(rows + ["made a want put 'd want put 'b want put 'c say row 3 got 0 got 1 got 2"],
                  ("a", (("d", "(1)"), ("b", "2"), ("c", "'c")), ("made", "((1),2,'c)")))
        self.line(rows + ["made a want put 'c want put 'd fail x"], ("a", (("c", "'c"), ("d", "(1)")), ("fails", "x")))

    def test_a_thing_wanted_again_stands_again(self):
        self.line(["told b 2", "made a want put 'b want put 'b want put 'b say sum got 0 got 2"],
                  ("a", (("b", "2"),) * 3, ("made", "4")))
        self.line(["told b 2", "told c 3", "made a want put 'b want put 'c want put 'b fail x"],
                  ("a", (("b", "2"), ("c", "3"), ("b", "2")), ("fails", "x")))
        twelve = "made a " + "want put 'b " * 12 + "say got 11"
        self.line(["told b 2", twelve], ("a", (("b", "2"),) * 12, ("made", "2")))

    def test_peeks_are_not_among_them(self):
        self.line(["told b 2", "told c 3", "made a peek put 'b want put 'c peek put 'c say row 3 got 0 got 1 got 2"],
                  ("a", (("c", "3"),), ("made", "(2,3,3)")))
        self.line(["told b 2", "made a peek put 'b say got 0"], ("a", (), ("made", "2")))
        self.line(["told b 2", "made a peek put 'b fail x"], ("a", (), ("fails", "x")))
        self.line(["told b 2", "made a peek put 'b want put 'c say put 1"], ("a", (), ("wants", "c")))
        self.line(["told b 2", "made a want put 'b peek put 'c say put 1"], ("a", (("b", "2"),), ("wants", "c")))

    def test_up_to_the_first_that_is_not_good(self):
        rows = ["told b 2", "made c fail x", "made d want put 'e say put 1", "made f want put 'f say put 1"]
        for name in ("c", "d", "e", "f", "a"):
            for word in ("want", "peek"):
                self.line(rows + [f"made a want put 'b {word} put '{name} want put 'b say put 1"],
                          ("a", (("b", "2"),), ("wants", name)))
        self.line(rows + ["made a want put 'd want put 'c say put 1"], ("a", (), ("wants", "d")))
        self.line(rows, ("d", (), ("wants", "e")))
        self.line(rows, ("f", (), ("wants", "f")))

    def test_a_failing_of_a_read_thing_is_a_want(self):
        self.line(["made b fail x", "made a want put 'b fail y"], ("a", (), ("wants", "b")))
        self.line(["made b fail x", "made a fail y"], ("a", (), ("fails", "y")))

    def test_not_made(self):
        book = read_book(["told a 1", "told made 2", "made b want put 'a say got 0", "made c want put 'z say put 1"])
        for name in ("a", "made", "z", "ab", "told", "", "B", "b ", "no name at all", "7"):
            self.refused(book, name)
            self.refused(({}, {}), name)
        self.refused(({"b": 1}, {"a": ("fail", "x")}), "b")


class Fresh(Making):
    def gives(self, rows, wanted):
        book = read_book(rows)
        turned = read_book(rows[::-1])
        for name, result in wanted.items():
            with self.subTest(rows=rows, name=name):
                self.same(fresh(book, name), result)
                self.same(fresh(turned, name), result)

    def test_made(self):
        self.gives(["told a 4", "made b want put 'a say row 1 got 0", "made c peek put 'b say got 0", "told d '"],
                   {"a": ("made", 4), "b": ("made", (4,)), "c": ("made", (4,)), "d": ("made", "")})

    def test_fails(self):
        rows = ["made a fail sour", wanting("b", "a"), wanting("c", "b"), "made d peek put 'c say put 1", "told e 0",
                "made f want put 'e want put 'd say put 1", "made g want put 'e say part got 0 got 0"]
        self.gives(rows, {
            "a": ("fails", ("a",), "sour"), "b": ("fails", ("b", "a"), "sour"), "c": ("fails", ("c", "b", "a"), "sour"),
            "d": ("fails", ("d", "c", "b", "a"), "sour"), "f": ("fails", ("f", "d", "c", "b", "a"), "sour"),
            "g": ("fails", ("g",), "kind"), "e": ("made", 0),
        })

    def test_lacks(self):
        rows = [wanting("a", "z"), wanting("b", "a"), "told c 1", "made d want put 'c peek put 'b say put 1"]
        self.gives(rows, {
            "z": ("lacks", ("z",)), "a": ("lacks", ("a", "z")), "b": ("lacks", ("b", "a", "z")),
            "d": ("lacks", ("d", "b", "a", "z")), "y": ("lacks", ("y",)), "zzzzzzzz": ("lacks", ("zzzzzzzz",)),
        })
        self.gives([], {"a": ("lacks", ("a",))})

    def test_ring(self):
        self.gives([wanting("a", "a")], {"a": ("ring", ("a", "a"))})
        self.gives(["made a peek put 'a say put 1"], {"a": ("ring", ("a", "a"))})
        self.gives([wanting("a", "b"), wanting("b", "c"), wanting("c", "a")], {
            "a": ("ring", ("a", "b", "c", "a")), "b": ("ring", ("b", "c", "a", "b")), "c": ("ring",
                                                                                            ("c", "a", "b", "c")),
        })

    def test_a_ring_that_the_name_leads_to_but_is_not_of(self):
        rows = [wanting("a", "b"), wanting("b", "a"), wanting("c", "b"), wanting("d", "c"), wanting("e", "f"),
                wanting("f", "f")]
        self.gives(rows, {
            "c": ("ring", ("c", "b", "a", "b")), "d": ("ring", ("d", "c", "b", "a", "b")), "e": ("ring",
                                                                                                 ("e", "f", "f")),
        })

    def test_it_goes_by_the_first_want_that_is_not_good(self):
        rows = ["made a fail x", "made b want put 'z want put 'a say put 1", "made c want put 'a want put 'z say put 1"]
        self.gives(rows, {"b": ("lacks", ("b", "z")), "c": ("fails", ("c", "a"), "x")})
        self.gives(["told s 'q", "made a want put 's want got 0 say put 1"], {"a": ("lacks", ("a", "q"))})

    def test_rows_of_forty_and_more(self):
        names = things.names(40)
        rows = [wanting(one, other) for one, other in zip(names, names[1:])]
        last = names[-1]
        self.gives(rows + [f"made {last} fail x"],
                   {names[0]: ("fails", tuple(names), "x"), last: ("fails", (last,), "x")})
        self.gives(rows + [wanting(last, "zz")], {names[0]: ("lacks", tuple(names) + ("zz",))})
        self.gives(rows + [wanting(last, names[0])], {
            names[0]: ("ring", tuple(names) + (names[0],)), names[7]: ("ring", tuple(names[7:] + names[:8])),
        })
        self.gives(rows + [wanting(last, names[30])], {names[0]: ("ring", tuple(names) + (names[30],))})
        self.gives(rows + [f"told {last} 2"], {names[0]: ("made", 2), last: ("made", 2)})


class Any(Making):
    def test_as_told_in_another_way(self):
        source = things.source(32)
        seen = {}
        for _ in range(1500):
            book = things.book(source)
            self.assertIs(is_book(book), True)
            kept = copy.deepcopy(book)
            self.same(sorted(good_values(book).items()), sorted(plain.good(book).items()))
            for name in names_of(book) + ["k", "lacking"]:
                wanted = plain.result(book, name)
                self.same(fresh(book, name), wanted)
                seen[wanted[0]] = seen.get(wanted[0], 0) + 1
                if name in book[1]:
                    line = plain.line(book, name)
                    self.same(line_of(book, name), line)
                    sort = line[2][0] + str(min(len(line[1]), 2))
                    seen[sort] = seen.get(sort, 0) + 1
            self.assertEqual(repr(book), repr(kept))
        self.assertEqual(sorted(seen), sorted(
            ["fails", "lacks", "made", "ring"] + [word + many for word in ("made", "fails", "wants") for many in "012"]
        ))
        self.assertGreater(min(seen.values()), 20, seen)

    def test_whatever_the_order_in_which_the_dicts_are_filled(self):
        source = things.source(33)
        for _ in range(150):
            book = things.book(source)
            for _ in range(3):
                other = things.shuffled(source, book)
                self.assertEqual(good_values(other), good_values(book))
                for name in names_of(book) + ["k"]:
                    self.same(fresh(other, name), fresh(book, name))
                for name in book[1]:
                    self.same(line_of(other, name), line_of(book, name))

    def test_what_is_told_is_the_asker_s_own(self):
        book = read_book(["told a 1", "made b want put 'a say got 0"])
        kept = copy.deepcopy(book)
        told = good_values(book)
        told["a"] = 5
        told.pop("b")
        told["c"] = 7
        self.assertEqual(repr(book), repr(kept))
        self.assertEqual(good_values(book), {"a": 1, "b": 1})
        later = good_values(book)
        line = line_of(book, "b")
        gives = fresh(book, "b")
        book[0]["a"] = 2
        book[1]["c"] = ("fail", "x")
        self.assertEqual(later, {"a": 1, "b": 1})
        self.assertEqual(line, ("b", (("a", "1"),), ("made", "1")))
        self.assertEqual(gives, ("made", 1))
        self.assertEqual(good_values(book), {"a": 2, "b": 2})
        self.assertEqual(fresh(book, "b"), ("made", 2))


if __name__ == "__main__":
    unittest.main()
