"""Points 39 and 40: the paper of names of an honest book, and what a paper alone tells of a name."""

import copy
import unittest

import plain
import things
from redo.books import is_honest_book
from redo.booktexts import read_book
from redo.checker import lets_by
from redo.errors import NoLine, RedoError
from redo.making import fresh, line_of
from redo.papers import paper_of, result_by

ROWS = [
    "told t 1", "told u 'x", "made b want put 't say sum got 0 put 1",
    "made c want put 'b want put 'u say row 2 got 0 got 1",
    "made f fail sour", "made g want put 't want put 'f say put 1", "made h want put 't want put 'zz say put 1",
    "made r want put 's say put 1", "made s want put 'r say put 1", "made i want put 'i say put 1",
    "made j want put 'r say put 1",
]
MADE = ["b", "c", "f", "g", "h", "r", "s", "i", "j"]


def row_of_forty(last):
    """Forty names, each wanting the next one; the last one as told."""
    names = things.names(40)
    rows = [f"made {one} want put '{other} say got 0" for one, other in zip(names, names[1:])]
    return names, read_book(rows + [last.replace("LAST", names[-1]).replace("FIRST", names[0])])


class Papers(unittest.TestCase):
    def paper(self, book, names):
        """The paper of these names: let by, as 33 and 37 tell, with a line for each of them that is made."""
        kept = copy.deepcopy((book, names))
        told = paper_of(book, names)
        self.assertEqual(repr((book, names)), repr(kept))
        self.assertIs(type(told), list)
        self.assertIs(lets_by(book, told), True)
        self.assertIs(plain.let_by(book, told), True)
        lined = [line[0] for line in told]
        self.assertEqual(sorted(set(lined)), sorted(lined))
        for name in names:
            self.assertIs(name in lined, name in book[1])
        for line in told:
            self.assertEqual(line, line_of(book, line[0]))
        return told

    def test_no_names(self):
        self.paper(read_book(ROWS), [])
        self.paper(({}, {}), [])

    def test_each_name_by_itself(self):
        for rows in (ROWS, ROWS[::-1]):
            for name in MADE:
                self.paper(read_book(rows), [name])

    def test_each_two_names(self):
        for one in MADE:
            for other in MADE:
                self.paper(read_book(ROWS), [one, other])

    def test_all_names_in_any_order(self):
        source = things.source(39)
        for _ in range(20):
            names = source.sample(MADE, len(MADE))
            self.paper(read_book(source.sample(ROWS, len(ROWS))), names)

    def test_told_and_lacking_names_are_passed_over(self):
        book = read_book(ROWS)
        for names in (["t"], ["zz"], ["t", "u", "zz"], ["t", "b", "zz"],
                      ["", "B", "no name at all", "b", "7", "'b", "b "]):
            self.paper(book, names)
        self.paper(({}, {}), ["a", "b"])
        self.paper(({"a": 1}, {}), ["a", "b", "a"])

    def test_a_name_twice_counts_once(self):
        book = read_book(ROWS)
        for names in (["b", "b"], ["c", "b", "c", "b"], ["g", "t", "g"], ["r", "s", "r"], MADE + MADE, ["b"] * 40):
            self.paper(book, names)

    def test_rows_of_forty(self):
        for last in ("told LAST 3", "made LAST fail x", "made LAST say put 3", "made LAST want put 'zz say put 1",
                     "made LAST want put 'FIRST say put 1"):
            names, book = row_of_forty(last)
            for asked in (names[:1], names, names[::-1], names[20:21], names[-1:]):
                self.paper(book, asked)

    def test_what_is_told_is_the_asker_s_own(self):
        book = read_book(ROWS)
        told = paper_of(book, ["c", "b"])
        kept = list(told)
        told.clear()
        self.assertEqual(paper_of(book, ["c", "b"]), kept)
        later = paper_of(book, ["c"])
        shown = repr(later)
        book[0]["t"] = 5
        book[1].pop("c")
        self.assertEqual(repr(later), shown)

    def test_any_honest_book(self):
        source = things.source(40)
        for _ in range(600):
            book = things.book(source, things.HONEST)
            self.assertIs(is_honest_book(book), True)
            names = [source.choice(things.NAMES + ("k", "a1")) for _ in range(source.choice([0, 1, 2, 5, 12, 40]))]
            paper = self.paper(book, names)
            for line in paper:
                self.assertEqual(repr(result_by(paper, line[0])), repr(plain.result(book, line[0])))


class Results(unittest.TestCase):
    def tells(self, paper, wanted):
        for name, result in wanted.items():
            with self.subTest(name=name):
                for given in (paper, paper[::-1]):
                    kept = copy.deepcopy(given)
                    told = result_by(given, name)
                    self.assertEqual(told, result)
                    self.assertEqual(repr(told), repr(result))
                    self.assertEqual(repr(given), repr(kept))

    def test_made(self):
        self.tells([("a", (), ("made", "5")), ("b", (("a", "5"),), ("made", "(5,'x,())")),
                    ("c", (("t", "1"),), ("made", "'"))],
                   {"a": ("made", 5), "b": ("made", (5, "x", ())), "c": ("made", "")})

    def test_fails(self):
        self.tells([("a", (), ("fails", "sour")), ("b", (), ("wants", "a")), ("c", (("t", "1"),), ("wants", "b"))], {
            "a": ("fails", ("a",), "sour"), "b": ("fails", ("b", "a"), "sour"), "c": ("fails", ("c", "b", "a"), "sour"),
        })

    def test_lacks(self):
        self.tells([("a", (), ("wants", "z")), ("b", (), ("wants", "a"))], {
            "a": ("lacks", ("a", "z")), "b": ("lacks", ("b", "a", "z")),
        })

    def test_ring(self):
        self.tells([("a", (), ("wants", "a"))], {"a": ("ring", ("a", "a"))})
        self.tells([(one, (), ("wants", other)) for one, other in ("ab", "bc", "cb", "da")], {
            "a": ("ring", ("a", "b", "c", "b")), "b": ("ring", ("b", "c", "b")), "c": ("ring", ("c", "b", "c")),
            "d": ("ring", ("d", "a", "b", "c", "b")),
        })

    def test_rows_of_forty_and_more(self):
        for last in ("told LAST 3", "made LAST fail x", "made LAST want put 'zz say put 1",
                     "made LAST want put 'FIRST say put 1"):
            names, book = row_of_forty(last)
            paper = paper_of(book, names)
            for name in names[:-1]:
                self.tells(paper, {name: plain.result(book, name)})

    def test_by_the_paper_alone(self):
        """Of what the paper has no line the row ends there, as of a thing that lacks."""
        self.tells([("a", (), ("wants", "b"))], {"a": ("lacks", ("a", "b"))})

    def test_no_line(self):
        papers = ([], [("a", (), ("wants", "b"))],
                  [("a", (), ("made", "1")), ("c", (("a", "1"), ("b", "1")), ("fails", "x"))])
        for paper in papers:
            for name in ("b", "z", "x", "made", "", "A", "no name at all", "1"):
                kept = copy.deepcopy(paper)
                with self.assertRaises(NoLine) as caught:
                    result_by(paper, name)
                self.assertEqual(caught.exception.name, name)
                self.assertIs(type(caught.exception), NoLine)
                self.assertIsInstance(caught.exception, RedoError)
                self.assertEqual(repr(paper), repr(kept))

    def test_for_each_book_that_lets_it_by(self):
        """The same paper, let by unlike books, tells what each of them gives."""
        paper = [("a", (), ("wants", "z")), ("b", (("t", "1"),), ("made", "1"))]
        books = [
            read_book(["made a want put 'z say put 1", "told t 1", "made b want put 't say got 0"]),
            read_book(["made a want put 'z fail x", "told t 1", "made b want put 't say put 1", "made d fail x"]),
            read_book(["made a when put 1 want put 'z fail x fail y", "told t 1", "told u 1",
                       "made b want put 't say got 0"]),
        ]
        for book in books:
            self.assertIs(lets_by(book, paper), True)
            for name in ("a", "b"):
                self.assertEqual(result_by(paper, name), fresh(book, name))


if __name__ == "__main__":
    unittest.main()
