"""Points 5, 37 and 38: which papers the small checker lets by, and what they show."""

import copy
import itertools
import unittest

import plain
import things
from redo.books import is_book
from redo.booktexts import read_book
from redo.checker import lets_by, shown_by
from redo.lines import is_line
from redo.making import fresh, line_of
from redo.papers import result_by

# Told t and u; b of t, c of b and u; f fails, g wants f; h wants what lacks; r, s a ring; i wants itself; p peeks.
BOOK = read_book([
    "told t 1", "told u 'x", "made b want put 't say sum got 0 put 1",
    "made c want put 'b want put 'u say row 2 got 0 got 1",
    "made f fail sour", "made g want put 't want put 'f say put 1", "made h want put 't want put 'zz say put 1",
    "made r want put 's say put 1", "made s want put 'r say put 1", "made i want put 'i say put 1", "made k say put 5",
    "made p peek put 't say got 0", "made q want put 't when got 0 say put 3 peek put 't say put 4",
])
B = ("b", (("t", "1"),), ("made", "2"))
C = ("c", (("b", "2"), ("u", "'x")), ("made", "(2,'x)"))
F = ("f", (), ("fails", "sour"))
G = ("g", (("t", "1"),), ("wants", "f"))
H = ("h", (("t", "1"),), ("wants", "zz"))
R = ("r", (), ("wants", "s"))
S = ("s", (), ("wants", "r"))
I = ("i", (), ("wants", "i"))
K = ("k", (), ("made", "5"))
Q = ("q", (("t", "1"),), ("made", "3"))
ALL = [B, C, F, G, H, R, S, I, K, Q]


def shown(thing):
    try:
        return repr(thing)[:300]
    except RuntimeError:
        return "a thing that can't be shown"


class Checks(unittest.TestCase):
    def told(self, book, paper, wanted):
        kept = copy.deepcopy(book)
        with self.subTest(paper=shown(paper)):
            self.assertIs(lets_by(book, paper), wanted)
            self.assertEqual(repr(book), repr(kept))

    def yes(self, *papers):
        for paper in papers:
            self.told(BOOK, paper, True)

    def no(self, *papers):
        for paper in papers:
            self.told(BOOK, paper, False)


class Papers(Checks):
    def test_the_empty_list(self):
        self.yes([])
        self.told(({}, {}), [], True)
        self.no((), None, {}, "", 0, False, True, ((),), [()], [[]], [None])
        self.told(({}, {}), (), False)

    def test_each_line_by_itself(self):
        self.yes([B], [F], [H], [I], [K], [Q])
        self.no([C], [G], [R], [S])

    def test_all_lines(self):
        self.yes(ALL, [B, C], [F, G], [G, F], [R, S], [S, R], [I, R, K, S], ALL[::-1][:8] + [B, C])
        self.no([C, B], ALL[::-1])

    def test_other_kinds(self):
        for thing in things.odd_things() + [0, 5, "a", "", (), (B,), {"b": B}, (B, C), {0: B}, [B, 1], [[B]],
                                            [(B,)]]:
            if not isinstance(thing, list) or len(thing) > 0:
                self.no(thing)
            self.no([thing], [B, thing], [thing, B], {"b": thing}, (thing,))
        self.no([list(B)], [B[:2]], [B + ((),)], [("b", [("t", "1")], ("made", "2"))],
                [("b", (["t", "1"],), ("made", "2"))])
        self.no([("b", (("t", "1"),), ["made", "2"])], [("b", (("t", 1),), ("made", "2"))],
                [("b", (("t", "1"),), ("made", 2))])
        self.no([("b", (("t", "01"),), ("made", "2"))], [("b", (("t", "1"),), ("made", "2 "))], "b", ["b"])

    def test_a_line_twice(self):
        self.no([B, B], [F, F], [B, C, B], [I, I], ALL + [K], [R, S, R])
        self.no([F, ("f", (), ("fails", "sour"))])

    def test_a_line_of_a_told_name_or_of_one_that_lacks(self):
        self.no([("t", (), ("made", "1"))], [("t", (), ("made", "1")), B], [("zz", (), ("made", "1"))],
                [("a", (), ("fails", "sour"))])
        self.no([("t", (), ("wants", "zz"))], [H, ("zz", (), ("fails", "x"))], ALL + [("zz", (), ("wants", "zz"))])
        self.told(({}, {}), [K], False)
        self.told(({"k": 5}, {}), [K], False)

    def test_a_line_that_is_not_right(self):
        for line in (
            ("b", (("t", "1"),), ("made", "3")), ("b", (), ("made", "2")), ("b", (("t", "1"), ("t", "1")),
                                                                            ("made", "2")),
            ("b", (("u", "'x"),), ("made", "2")), ("b", (("t", "1"),), ("fails", "kind")), ("b", (("t", "1"),),
                                                                                            ("wants", "zz")),
            ("b", (("t", "1"),), ("wants", "b")), ("f", (), ("fails", "x")), ("f", (), ("wants", "zz")), ("k", (),
                                                                                                          ("made",
                                                                                                           "6")),
            ("h", (("t", "1"),), ("wants", "yy")), ("k", (("t", "1"),), ("made", "5")), ("f", (), ("made", "'sour")),
            ("p", (), ("made", "1")), ("p", (("t", "1"),), ("made", "1")), ("p", (), ("wants", "t")), ("p", (),
                                                                                                       ("wants", "zz")),
            ("q", (("t", "0"),), ("made", "4")), ("q", (("t", "0"), ("t", "0")), ("made", "4")),
        ):
            self.no([line], [K, line], [line, K])


class Reads(Checks):
    def test_of_a_told_thing(self):
        self.yes([B])
        self.no([("b", (("t", "2"),), ("made", "3"))], [("b", (("t", "'"),), ("fails", "kind"))])
        self.no([B, ("c", (("b", "2"), ("u", "'y")), ("made", "(2,'y)"))], [("q", (("t", "2"),), ("made", "3"))])

    def test_of_a_name_whose_line_stands_ahead(self):
        self.yes([B, C], [B, K, C], [K, B, F, C])
        self.no([C], [C, B], [K, C, B])
        self.no([B, ("c", (("b", "3"), ("u", "'x")), ("made", "(3,'x)"))])

    def test_of_a_name_whose_line_ends_otherwise(self):
        book = read_book(["made a fail x", "made b want put 'a say got 0", "made c want put 'd say put 1",
                          "made d want put 'c say put 1"])
        a = ("a", (), ("fails", "x"))
        self.told(book, [a, ("b", (), ("wants", "a"))], True)
        for stamp in ("1", "'x", "'fails", "()", "'"):
            self.told(book, [a, ("b", (("a", stamp),), ("made", stamp))], False)
            self.told(book, [("b", (("a", stamp),), ("made", stamp)), a], False)
            self.told(book, [("b", (("a", stamp),), ("made", stamp))], False)
        c = ("c", (), ("wants", "d"))
        self.told(book, [c, ("d", (), ("wants", "c"))], True)
        self.told(book, [c, ("d", (("c", "1"),), ("made", "1"))], False)

    def test_of_what_lacks(self):
        book = read_book(["made a want put 'z say got 0"])
        self.told(book, [("a", (), ("wants", "z"))], True)
        self.told(book, [("a", (("z", "1"),), ("made", "1"))], False)

    def test_of_itself_and_of_one_another(self):
        """What goes round can't show itself made, whatever it says it read."""
        book = read_book(["made a want put 'b say got 0", "made b want put 'a say got 0",
                          "made c want put 'c say got 0"])
        a, b, c = [(name, ((other, "7"),), ("made", "7")) for name, other in ("ab", "ba", "cc")]
        for paper in ([a], [b], [a, b], [b, a], [c], [a, b, c]):
            self.told(book, paper, False)
        self.told(book, [(name, (), ("wants", other)) for name, other in ("ab", "ba", "cc")], True)

    def test_each_of_twelve(self):
        book = read_book(["told t 1", "told u 2", "made a " + "want put 't " * 11 + "want put 'u say got 11"])
        reads = (("t", "1"),) * 11 + (("u", "2"),)
        self.told(book, [("a", reads, ("made", "2"))], True)
        for at in range(12):
            bent = reads[:at] + ((reads[at][0], "3"),) + reads[at + 1:]
            self.told(book, [("a", bent, ("made", "3" if at == 11 else "2"))], False)


class Ends(Checks):
    def test_of_a_name_that_lacks(self):
        self.yes([H], [I], [H, B])

    def test_of_a_told_thing(self):
        self.no([("b", (), ("wants", "t"))], [B, ("c", (("b", "2"),), ("wants", "u"))], [("g", (), ("wants", "t")), F])
        self.no([("h", (), ("wants", "t"))])

    def test_of_a_name_without_a_line(self):
        self.no([G], [R], [S], [C], [G, B], [("c", (), ("wants", "b"))])

    def test_of_one_whose_line_ends_made(self):
        self.no([B, ("c", (), ("wants", "b"))], [("c", (), ("wants", "b")), B])

    def test_of_a_line_anywhere_that_does_not(self):
        self.yes([F, G], [G, F], [R, S], [S, R], [G, B, F])

    def test_of_itself(self):
        self.yes([I])
        self.no([("r", (), ("wants", "r"))], [("k", (), ("wants", "k"))])

    def test_a_failing_s_word_is_no_wanted_name(self):
        book = read_book(["told t 1", "made a fail t", "made b say put 1", "made c fail b", "made d fail d",
                          "made e fail zz"])
        for name, word in ("at", "cb", "dd", ("e", "zz")):
            line = (name, (), ("fails", word))
            self.told(book, [line], True)
            self.told(book, [("b", (), ("made", "1")), line], True)
            self.told(book, [line, ("b", (), ("made", "1"))], True)

    def test_a_good_thing_can_t_be_shown_otherwise(self):
        """b is good: no way of wanting its way out of that is let by."""
        for lines in itertools.permutations([("c", (), ("wants", "b")), ("b", (), ("wants", "t")),
                                             ("b", (), ("wants", "b")), B, C], 2):
            self.told(BOOK, list(lines), list(lines) == [B, C])


class Hundred(Checks):
    def test_a_hundred_and_a_hundred_and_one(self):
        """By a book that is greater than books are: no other one has so many made names."""
        names = [one + other for one in "abcd" for other in "abcdefghijklmnopqrstuvwxyz"][:101]
        book = ({}, dict.fromkeys(names, ("say", ("put", 1))))
        lines = [(name, (), ("made", "1")) for name in names]
        for many in (1, 40, 41, 99, 100):
            self.told(book, lines[:many], True)
        self.told(book, lines, False)
        self.told(book, lines[1:], True)
        self.told(book, lines[:99] + lines[:1], False)

    def test_by_a_book_of_forty(self):
        names = things.names(40)
        book = ({}, dict.fromkeys(names, ("say", ("put", 1))))
        self.assertIs(is_book(book), True)
        lines = [(name, (), ("made", "1")) for name in names]
        self.told(book, lines, True)
        self.told(book, lines + lines[:1], False)
        self.told(book, (lines * 3)[:100], False)
        self.told(book, (lines * 3)[:101], False)
        self.told(book, [()] * 2000, False)
        self.told(book, lines[:1] * 2000, False)

    def test_a_row_of_forty(self):
        names = things.names(40)
        made = {one: ("want", ("put", other), ("say", ("got", 0))) for one, other in zip(names, names[1:])}
        lines = [(one, ((other, "3"),), ("made", "3")) for one, other in zip(names, names[1:])]
        book = ({names[39]: 3}, made)
        self.told(book, lines[::-1], True)
        self.told(book, lines, False)
        for at in range(38):
            swapped = lines[::-1]
            swapped[at], swapped[at + 1] = swapped[at + 1], swapped[at]
            self.told(book, swapped, False)
            self.told(book, lines[::-1][:at] + lines[::-1][at + 1:], False)
        wants = [(one, (), ("wants", other)) for one, other in zip(names, names[1:])]
        self.told(({}, made), wants, True)
        self.told(({}, made), wants[1:], True)
        self.told(({}, made), wants[:-1], False)
        self.told(book, wants, False)


class Shown(unittest.TestCase):
    def test_the_ends_by_their_names(self):
        self.assertEqual(shown_by([]), {})
        self.assertEqual(shown_by([B, F, H]), {"b": ("made", "2"), "f": ("fails", "sour"), "h": ("wants", "zz")})
        told = shown_by([C, B])
        self.assertIs(type(told), dict)
        self.assertEqual(told, {"b": ("made", "2"), "c": ("made", "(2,'x)")})
        self.assertIs(type(told["b"]), tuple)

    def test_whether_it_is_let_by_or_not(self):
        self.assertEqual(shown_by([("zz", (("t", "9"),), ("made", "8"))]), {"zz": ("made", "8")})

    def test_it_is_the_asker_s_own(self):
        paper = [B, F]
        told = shown_by(paper)
        told["b"] = ("made", "9")
        told.pop("f")
        self.assertEqual(paper, [B, F])
        self.assertEqual(shown_by(paper), {"b": ("made", "2"), "f": ("fails", "sour")})
        later = shown_by(paper)
        paper.append(K)
        self.assertEqual(later, {"b": ("made", "2"), "f": ("fails", "sour")})


class Any(unittest.TestCase):
    """Whatever is let by is what making everything afresh gives, whoever wrote it (5, 38, 40)."""

    def shows(self, book, paper):
        for line in paper:
            self.assertEqual(line, line_of(book, line[0]))
            self.assertEqual(repr(result_by(paper, line[0])), repr(fresh(book, line[0])))
            self.assertEqual(repr(fresh(book, line[0])), repr(plain.result(book, line[0])))

    def test_right_papers_and_bent_ones(self):
        source = things.source(37)
        seen = {True: 0, False: 0}
        for _ in range(2500):
            book = things.book(source, source.choice([things.HONEST, things.PEEKING]))
            paper = [line_of(book, name) for name in book[1]]
            source.shuffle(paper)
            for _ in range(source.randint(0, 3)):
                paper = bent(source, book, paper)
            self.assertTrue(all([is_line(line) for line in paper]))
            wanted = plain.let_by(book, paper)
            kept = copy.deepcopy((book, paper))
            self.assertIs(lets_by(book, paper), wanted)
            self.assertEqual(repr((book, paper)), repr(kept))
            seen[wanted] += len(paper) > 0
            if wanted:
                self.shows(book, paper)
        self.assertGreater(min(seen.values()), 300, seen)

    def test_all_papers_of_small_lines(self):
        """Every paper of lines that are right by the book's recipes and have reads of few stamps."""
        books = [
            ["made a want put 'b say got 0", "made b want put 'a say got 0"],
            ["made a want put 'b say got 0", "made b want put 'c say got 0", "made c fail x"],
            ["made a want put 'b say got 0", "made b want put 'c say got 0", "told c 1"],
            ["made a want put 'b when got 0 want put 'a say put 1 say put 0", "made b want put 'c say got 0",
             "told c 0"],
            ["made a want put 'b when got 0 want put 'a say put 1 say put 0", "made b want put 'c say got 0",
             "told c 1"],
            ["made a want put 'a say put 1", "made b want put 'a say put 1", "made c say put 1"],
            ["made a want put 'b say got 0", "made b peek put 'c say got 0", "made c say put 1"],
        ]
        lets = 0
        for rows in books:
            book = read_book(rows)
            lines = [
                (name, reads, end) for name in "abc" for many in range(3)
                for reads in itertools.product([("a", "1"), ("b", "0"), ("b", "1"), ("c", "0"), ("c", "1")],
                                               repeat=many)
                for end in (("made", "0"), ("made", "1"), ("fails", "x"), ("wants", "a"), ("wants", "b"),
                            ("wants", "c"))
            ]
            lines = [line for line in lines if line[0] in book[1] and plain.right(book[1][line[0]], line)]
            for many in range(4):
                for paper in itertools.permutations(lines, many):
                    wanted = plain.let_by(book, list(paper))
                    self.assertIs(lets_by(book, list(paper)), wanted)
                    if wanted:
                        lets += 1
                        self.shows(book, list(paper))
        self.assertGreater(lets, 20)


def bent(source, book, paper):
    """A line swapped, left out, put twice, or with a read or an end changed; or one that is right by other reads."""
    if len(paper) == 0:
        return paper
    at = source.randrange(len(paper))
    name, reads, end = paper[at]
    way = source.choice(["swap", "leave", "twice", "read", "end", "other", "sort", "sort"])
    if way == "swap":
        return paper[:at] + paper[at + 1:] + [paper[at]]
    if way == "leave":
        return paper[:at] + paper[at + 1:]
    if way == "twice":
        return paper + [paper[at]]
    if way == "sort":
        return sorted(paper, key=lambda line: (line[2][0] != "made", len(line[1])))
    if way == "read" and len(reads) > 0:
        k = source.randrange(len(reads))
        reads = reads[:k] + ((reads[k][0], source.choice(["0", "1", "'a", "()"])),) + reads[k + 1:]
    if way == "end":
        end = source.choice([("made", "0"), ("made", "1"), ("fails", "x"), ("wants", source.choice(things.NAMES))])
    if way == "other" and name in book[1]:
        return paper[:at] + [things.nearly(source, book[1][name], paper[at])] + paper[at + 1:]
    return paper[:at] + [(name, reads, end)] + paper[at + 1:]


if __name__ == "__main__":
    unittest.main()
