"""Point 31: books written as lists of texts, and read from such lists."""

import copy
import unittest

import things
from redo.books import is_book
from redo.booktexts import read_book, shown_book
from redo.errors import BadLine, RedoError

SAY = ("say", ("put", 1))
FAIL = ("fail", "sour")

PAIRS = (
    (({}, {}), []),
    (({"a": 1}, {}), ["told a 1"]),
    (({}, {"a": SAY}), ["made a say put 1"]),
    (({"b": "", "told": -7, "made": ()}, {"a": FAIL, "say": SAY}),
     ["made a fail sour", "told b '", "told made ()", "made say say put 1", "told told -7"]),
    (({"ab": (1, ("x", ()))}, {"aa": ("want", ("put", "ab"), ("say", ("got", 0))), "a": ("fail", "a"), "abc": FAIL}),
     ["made a fail a", "made aa want put 'ab say got 0", "told ab (1,('x,()))", "made abc fail sour"]),
    (({"zzzzzzzz": "told-a-1"}, {"a": ("peek", ("put", "zzzzzzzz"), ("when", ("got", 0), SAY, FAIL))}),
     ["made a peek put 'zzzzzzzz when got 0 say put 1 fail sour", "told zzzzzzzz 'told-a-1"]),
)


def any_book(source):
    found = things.names(source.randint(0, 40))
    source.shuffle(found)
    told = source.randint(0, len(found))
    return (
        {name: things.single(source) for name in found[:told]},
        {name: things.right_recipe(source, 4) for name in found[told:]},
    )


class Texts(unittest.TestCase):
    def same(self, book, wanted):
        """Dicts in any order, but kinds are compared, too, by their shown words."""
        self.assertIs(type(book), tuple)
        self.assertEqual(book, wanted)
        self.assertEqual([repr(sorted(part.items())) for part in book], [repr(sorted(part.items())) for part in wanted])

    def refused(self, *given):
        for lines, at in given:
            with self.subTest(lines=str(lines)[:100]):
                kept = list(lines)
                with self.assertRaises(BadLine) as caught:
                    read_book(lines)
                self.assertEqual(caught.exception.at, at)
                self.assertIs(type(caught.exception.at), int)
                self.assertIsInstance(caught.exception, RedoError)
                self.assertEqual(lines, kept)

    def bad(self, *lines):
        """Lines that tell nothing, wherever they stand."""
        for line in lines:
            self.refused(([line], 0), ([line, line], 0), ([line, "told a 1"], 0))
            self.refused((["told x 1", line], 1), (["told x 1", "made y fail a", line, "told"], 2))


class Written(Texts):
    def test_texts(self):
        for book, lines in PAIRS:
            self.assertEqual(shown_book(book), lines)
            self.assertIs(type(shown_book(book)), list)

    def test_in_the_order_of_names(self):
        book = things.book_of(20, 20)
        turned = ({name: 7 for name in reversed(list(book[0]))}, {name: SAY for name in reversed(list(book[1]))})
        lines = shown_book(turned)
        self.assertEqual([line.split(" ")[1] for line in lines], things.names(40))
        self.assertEqual(lines, shown_book(book))

    def test_what_is_told_is_the_asker_s_own(self):
        book = ({"b": 1}, {"a": SAY})
        kept = copy.deepcopy(book)
        lines = shown_book(book)
        self.assertEqual(repr(book), repr(kept))
        book[0]["b"] = 2
        self.assertEqual(lines, ["made a say put 1", "told b 1"])
        lines.clear()
        self.assertEqual(shown_book(kept), ["made a say put 1", "told b 1"])


class Read(Texts):
    def test_texts(self):
        for book, lines in PAIRS:
            self.same(read_book(lines), book)

    def test_there_and_back_in_any_order(self):
        source = things.source(31)
        for _ in range(150):
            book = any_book(source)
            self.assertIs(is_book(book), True)
            lines = shown_book(book)
            self.same(read_book(lines), book)
            source.shuffle(lines)
            self.same(read_book(lines), book)
            self.assertEqual(shown_book(read_book(lines)), sorted(lines, key=lambda line: line.split(" ")[1]))

    def test_unlike_books_have_unlike_texts(self):
        source = things.source(32)
        seen = {}
        for _ in range(500):
            book = any_book(source) if source.random() < 0.5 else ({"a": things.single(source)}, {})
            self.same(seen.setdefault(tuple(shown_book(book)), book), book)

    def test_great_things(self):
        book = ({"a": things.FORTY}, {"b": ("say", things.expr_of(59))})
        self.same(read_book(shown_book(book)), book)

    def test_another_first_word(self):
        self.bad("", " ", "say a 1", "tell a 1", "Told a 1", "TOLD a 1", "make a say put 1", "lacks a 1", "a 1")
        self.bad(" told a 1")
        self.bad("toldmade a 1", "told,a 1", "  ", "made", "told", "1", "~", "tolda 1")

    def test_no_name(self):
        for name in ("", "A", "a1", "abcdefghi", "'a", "-", "1", "()"):
            self.bad("told " + name + " 1", "made " + name + " say put 1", "told " + name, "made " + name)
        self.bad("told 1", "told  a 1", "made  a say put 1", "told a", "made a", "told  1", "made say put 1")

    def test_no_value_s_stamp(self):
        for stamp in (
            "", " ", "01", "-0", "a", "'A", "'" + "a" * 21, "(1", "(1,)", "1 ", " 1", "1 2", "1000000000000000001",
            "say put 1",
        ):
            self.bad("told a " + stamp)
        self.bad("told a ((((()))))", "told a " + "(" * 2000, "told a " + "9" * 60000, "told a 'a b", "told a (1, 2)")
        self.bad("told a '\n")

    def test_no_recipe_s_text(self):
        for text in (
            "", " ", "say", "say put", "say put 01", "fail", "fail A", "say put 1 ", " say put 1", "say  put 1",
            "put 1", "1", "'a",
            "say got 0", "want put 'a say got 1", "say put 1 say put 1", "say" + " many" * 19 + " put 1",
            "want put 'a " * 13 + "fail a",
            "say row 9", "say " + "many " * 2000 + "put 1", "when put 1 fail a", "saying",
        ):
            self.bad("made a " + text)
        self.same(read_book(["made a say" + " many" * 18 + " put 1"]), ({}, {"a": ("say", things.chain(19))}))

    def test_a_name_that_stands_in_a_line_above(self):
        self.refused((["told a 1", "told a 1"], 1), (["told a 1", "told a 2"], 1))
        self.refused((["told a 1", "made a say put 1"], 1))
        self.refused((["made a say put 1", "told a 1"], 1), (["made a say put 1", "made a say put 1"], 1))
        self.refused((["made a fail a", "told b 1", "made c fail a", "told b 2", "told"], 3))
        self.refused((["told a 1", "told b 1", "told c 1", "told c 1", "told a 1"], 3))

    def test_a_forty_first_line(self):
        lines = shown_book(things.book_of(20, 20))
        self.same(read_book(lines), things.book_of(20, 20))
        for more in ("told zz 1", "made zz fail a", "told", "", "told aa 1"):
            self.refused((lines + [more], 40), (lines + [more, more], 40), (lines + [more] * 60, 40))
        self.refused((lines[:39] + ["told"] + lines[39:], 39), (["told aa 01"] + lines, 0), (lines[:5] + lines, 5))
        self.assertEqual(read_book(lines[1:] + ["told zz 1"])[1], things.book_of(20, 20)[1])

    def test_the_first_of_several(self):
        self.refused((["told a 1", "told b", "told a 1", "a"], 1), (["told a 1", "told a 1", ""], 1))
        self.refused((["told a 1", "", "told a 1"], 1))

    def test_what_is_told_is_the_asker_s_own(self):
        lines = ["told b 1", "made a say put 1"]
        book = read_book(lines)
        self.assertEqual(lines, ["told b 1", "made a say put 1"])
        lines.clear()
        book[0]["c"] = 2
        book[1].clear()
        self.same(read_book(["told b 1", "made a say put 1"]), ({"b": 1}, {"a": SAY}))
        self.same(read_book([]), ({}, {}))
        read_book([])[0]["a"] = 1
        self.same(read_book([]), ({}, {}))

    def test_one_line_changed(self):
        """A list that is read at all is read as a book that is written by its lines."""
        source = things.source(33)
        seen = {True: 0, False: 0}
        for _ in range(600):
            lines = shown_book(any_book(source)) or ["told a 1"]
            at = source.randrange(len(lines))
            sign = source.randint(0, len(lines[at]))
            put = source.choice(["", " ", "a", "1", "'", "b", "told ", "fail a"])
            lines[at] = lines[at][:sign] + put + lines[at][sign + source.randint(0, 1):]
            try:
                book = read_book(lines)
            except BadLine as bad:
                self.assertGreaterEqual(bad.at, at)
                self.assertLess(bad.at, len(lines))
                self.same(read_book(lines[:bad.at]), read_book(shown_book(read_book(lines[:bad.at]))))
                seen[False] += 1
                continue
            self.assertIs(is_book(book), True)
            self.assertEqual(shown_book(book), sorted(lines, key=lambda line: line.split(" ")[1]))
            seen[True] += 1
        self.assertGreater(min(seen.values()), 50)


if __name__ == "__main__":
    unittest.main()
