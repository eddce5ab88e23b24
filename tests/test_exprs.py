"""Point 12: what an expr is."""

import copy
import unittest

import things
from redo.exprs import is_expr

PUT = ("put", 1)


def rows_of(many, inner=PUT):
    """A row of so many exprs in all, two deep while it can be, else three."""
    left = many - 1
    parts = []
    while left > 0 and len(parts) < 8:
        take = min(9, left - (7 - len(parts))) if left > 7 - len(parts) else 1
        take = max(1, take)
        parts.append(inner if take == 1 else ("row", (inner,) * (take - 1)))
        left -= take
    return ("row", tuple(parts))


def count_of(expr):
    within = {"put": (), "got": (), "row": expr[1]}.get(expr[0], expr[1:])
    return 1 + sum([count_of(part) for part in within])


def chain(depth, leaf=PUT):
    expr = leaf
    for _ in range(depth - 1):
        expr = ("many", expr)
    return expr


class Exprs(unittest.TestCase):
    def yes(self, many, *given):
        for at, thing in enumerate(given):
            with self.subTest(at=at):
                self.assertIs(is_expr(thing, many), True)

    def no(self, many, *given):
        for at, thing in enumerate(given):
            with self.subTest(at=at):
                self.assertIs(is_expr(thing, many), False)

    def test_put(self):
        self.yes(0, ("put", 0), ("put", ""), ("put", "a-1"), ("put", ()), ("put", (1, ("a", ()))), ("put", 10 ** 18))
        self.yes(0, ("put", "a" * 20), ("put", (0,) * 8), ("put", things.nested(0, 4)))
        self.no(0, ("put",), ("put", 1, 2), ("put", True), ("put", None), ("put", "A"), ("put", "a" * 21), ("put", 1.0))
        self.no(0, ("put", 10 ** 18 + 1), ("put", -10 ** 18 - 1), ("put", [1]), ("put", ([1],)), ("put", (0,) * 9))
        self.no(0, ("put", things.nested(0, 5)), ("put", things.shared(0, 2)))

    def test_got(self):
        self.yes(1, ("got", 0))
        self.yes(12, ("got", 0), ("got", 11))
        self.no(0, ("got", 0), ("got", 1), ("many", ("got", 0)))
        self.no(1, ("got", 1), ("got", -1), ("got", 10 ** 30))
        self.no(12, ("got", 12), ("got", -1), ("got", -12))
        self.no(3, ("got",), ("got", 0, 1), ("got", "0"), ("got", None), ("got", (0,)), ("got", 0.0), ("got", PUT))

    def test_truths_are_no_whole_numbers(self):
        self.no(12, ("got", True), ("got", False), ("sum", ("got", 0), ("got", True)))
        self.yes(12, ("got", 1), ("got", 0))

    def test_each_number_is_below_that_of_the_values(self):
        thing = ("row", (("got", 0), ("many", ("sum", ("got", 1), ("part", ("got", 3), ("got", 2))))))
        self.no(3, thing)
        self.yes(4, thing)
        self.yes(12, thing)

    def test_row(self):
        self.yes(0, ("row", ()), ("row", (PUT,)), ("row", (PUT, ("row", ()), ("many", PUT))), ("row", (PUT,) * 8))
        self.no(0, ("row",), ("row", (PUT,) * 9), ("row", PUT), ("row", PUT, PUT), ("row", (PUT,), (PUT,)), ("row", 1))
        self.no(0, ("row", "ab"), ("row", None), ("row", (1,)), ("row", ((),)), ("row", (PUT, ("put", 1.5))))
        self.no(0, ("row", ("put", 1)), ("row", (PUT,) * 100000))

    def test_many(self):
        self.yes(0, ("many", PUT), ("many", ("many", PUT)))
        self.no(0, ("many",), ("many", 1), ("many", "a"), ("many", ()), ("many", PUT, PUT), ("many", (PUT,)))

    def test_those_of_two(self):
        for word in ("part", "sum", "join", "same", "less"):
            self.yes(0, (word, PUT, PUT), (word, (word, PUT, PUT), ("row", ())))
            self.no(0, (word,), (word, PUT), (word, PUT, PUT, PUT), (word, (PUT, PUT)), (word, 1, 2), (word, PUT, 1))
            self.no(0, (word, "a", PUT), (word, PUT, ()), (word, PUT, ("got", 0)))

    def test_other_words(self):
        for word in ("", "Put", "PUT", "put ", "say", "want", "peek", "fail", "when", "value", "great", "rows", "a"):
            self.no(12, (word,), (word, 1), (word, PUT), (word, PUT, PUT), (word, (PUT,)))

    def test_lists_in_the_place_of_tuples(self):
        self.no(3, ["put", 1], ("row", []), ("row", [PUT]), ("row", (["put", 1],)), ["many", PUT], ("many", ["put", 1]))
        self.no(3, ["sum", PUT, PUT], ("sum", ["put", 1], PUT), ("sum", PUT, ["got", 0]), ("put", [1]), [])

    def test_other_kinds(self):
        self.no(12, 0, 1, "", "put", "got", (), ((),), (("put", 1),), (1, 2), (None, 1), (("put",), 1), {"put": 1})
        for thing in things.odd_things():
            self.no(12, thing, (thing,), (thing, 1), (thing, PUT), (thing, PUT, PUT), ("put", thing), ("got", thing))
            self.no(12, ("row", thing), ("row", (thing,)), ("row", (PUT, (thing, PUT))), ("many", thing))
            self.no(12, ("sum", PUT, thing), ("sum", thing, PUT), ("many", ("many", thing)))

    def test_sixty_and_sixty_one(self):
        for many in range(50, 60):
            self.assertEqual(count_of(rows_of(many)), many)
            self.yes(0, rows_of(many))
        sixty, more = rows_of(60), rows_of(61)
        self.assertEqual((count_of(sixty), count_of(more)), (60, 61))
        self.yes(0, sixty)
        self.no(0, more)
        self.yes(0, ("many", rows_of(59)))
        self.no(0, ("many", rows_of(60)))
        self.yes(0, ("sum", rows_of(29), rows_of(30)))
        self.no(0, ("sum", rows_of(30), rows_of(30)))

    def test_what_is_put_counts_nothing_of_its_own(self):
        forty = ((0,) * 8, (0,) * 8, (0,) * 8, (0,) * 7, 0, 0, 0, 0)
        great = rows_of(60, ("put", forty))
        self.assertEqual(count_of(great), 60)
        self.yes(0, great, chain(20, ("put", things.nested(0, 4))))

    def test_twenty_and_twenty_one_deep(self):
        self.yes(0, chain(19), chain(20), chain(20, ("row", ())), ("row", (PUT, chain(19))), ("sum", PUT, chain(19)))
        self.no(0, chain(21), chain(21, ("row", ())), ("row", (PUT, chain(20))), ("sum", PUT, chain(20)), chain(22))
        self.no(0, ("sum", chain(20), PUT), chain(60), chain(61))

    def test_things_without_measure(self):
        expr = PUT
        for _ in range(19):
            expr = ("sum", expr, expr)
        self.no(0, expr)
        for _ in range(60):
            expr = ("row", (expr,) * 8)
        self.no(0, expr, chain(10000), things.nested(0, 10000), ("put", things.nested(0, 10000)))

    def test_every_number_of_values_got(self):
        for many in range(13):
            for number in range(-2, 15):
                self.assertIs(is_expr(("got", number), many), 0 <= number < many)

    def test_nothing_is_changed(self):
        for thing in (
            ("row", [("put", 1)]), ["put", 1], ("put", [1, [2]]), ("sum", ("put", (1,)), ("got", 0)),
            ("row", (("got", 2), {"put": [1]})), {"row": ()},
        ):
            kept = copy.deepcopy(thing)
            is_expr(thing, 2)
            self.assertEqual(repr(thing), repr(kept))


if __name__ == "__main__":
    unittest.main()
