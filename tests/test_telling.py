"""Point 13: what an expr tells for the values got."""

import copy
import unittest

import things
from redo.exprs import is_expr
from redo.telling import told_by
from redo.values import is_value

KIND = ("fails", "kind")
PART = ("fails", "part")
GREAT = ("fails", "great")


def put(value):
    return ("put", value)


class Telling(unittest.TestCase):
    def tells(self, expr, value, got=()):
        self.same(told_by(expr, got), ("value", value), expr)

    def fails(self, expr, word, got=()):
        self.same(told_by(expr, got), ("fails", word), expr)

    def same(self, told, wanted, expr):
        """1 and True are the same to Python, so kinds are compared by their shown words."""
        with self.subTest(expr=str(expr)[:80]):
            self.assertEqual(told, wanted)
            self.assertEqual(repr(told), repr(wanted))

    def two(self, word, one, other):
        return (word, put(one), put(other))

    def test_put(self):
        for value in (0, -10 ** 18, "", "a-1", (), (1, ("a", ()))):
            self.tells(put(value), value)
            self.tells(put(value), value, [9, 9])

    def test_got(self):
        got = [5, "a", (), (1, 2)]
        for number in range(4):
            self.tells(("got", number), got[number], got)
            self.tells(("got", number), got[number], tuple(got))
        self.tells(("got", 11), 11, list(range(12)))
        self.tells(("got", 0), 7, [7, 8, 9])

    def test_row(self):
        self.tells(("row", ()), ())
        self.tells(("row", (put(1), put("a"), ("got", 0))), (1, "a", (2,)), [(2,)])
        self.tells(("row", (put(0),) * 8), (0,) * 8)

    def test_row_that_is_no_value(self):
        self.tells(("row", (put(things.nested(0, 3)),)), things.nested(0, 4))
        self.fails(("row", (put(things.nested(0, 4)),)), "great")
        self.fails(("row", (put(1), put(things.nested((), 3)))), "great")
        nine = put((0,) * 8)
        self.tells(("row", (nine,) * 4 + (put(0),) * 3), ((0,) * 8,) * 4 + (0, 0, 0))
        self.fails(("row", (nine,) * 4 + (put(0),) * 4), "great")
        self.fails(("row", (nine,) * 8), "great")

    def test_part(self):
        row = (5, "a", (1,))
        for number in range(3):
            self.tells(self.two("part", row, number), row[number])
        self.tells(self.two("part", (0,) * 7 + ("z",), 7), "z")

    def test_part_of_no_such_number(self):
        for number in (3, 4, -1, -3, 10 ** 18, -10 ** 18):
            self.fails(self.two("part", (5, "a", (1,)), number), "part")
        self.fails(self.two("part", (), 0), "part")
        self.fails(self.two("part", (), -1), "part")

    def test_part_of_other_kinds(self):
        for one, other in (
            (1, 0), ("abc", 0), ("", 0), (0, 0), ((1,), "a"), ((1,), "0"), ((1,), ""), ((1,), ()), ((1,), (0,)),
            ("a", "a"), ((), "a"), ((), ()), (1, ()), ("a", 5),
        ):
            self.fails(self.two("part", one, other), "kind")

    def test_many(self):
        for value, many in (("", 0), ("a", 1), ("abc-1", 5), ("a" * 20, 20), ((), 0), ((1,), 1), (((1, 2), 3), 2)):
            self.tells(("many", put(value)), many)
        self.tells(("many", put((0,) * 8)), 8)
        for number in (0, 1, -5, 10 ** 18):
            self.fails(("many", put(number)), "kind")

    def test_sum(self):
        top = 10 ** 18
        for one, other in ((0, 0), (1, 2), (-5, 3), (top, -1), (top - 1, 1), (1 - top, -1), (top, -top), (top, 0)):
            self.tells(self.two("sum", one, other), one + other)

    def test_sum_that_is_no_value(self):
        top = 10 ** 18
        for one, other in ((top, 1), (1, top), (-top, -1), (top, top), (-top, -top)):
            self.fails(self.two("sum", one, other), "great")

    def test_sum_of_other_kinds(self):
        for one, other in ((1, "a"), ("a", 1), ("a", "b"), ((), ()), ((1,), 1), (1, (1,)), ("1", 1), (10 ** 18, "a")):
            self.fails(self.two("sum", one, other), "kind")

    def test_join(self):
        for one, other in (
            ("", ""), ("a", ""), ("", "b"), ("ab", "cd"), ("b", "a"), ("a" * 10, "b" * 10), ((), ()), ((1,), ()),
            ((), ("a",)), ((1, 2), (3, (4,))), ((2,), (1,)), ((0,) * 4, (1,) * 4), ((), things.nested(0, 4)),
        ):
            self.tells(self.two("join", one, other), one + other)

    def test_join_that_is_no_value(self):
        nine = (0,) * 8
        for one, other in (
            ("a" * 20, "b"), ("b", "a" * 20), ("a" * 11, "b" * 10), ((0,) * 8, (0,)), ((0,), (0,) * 8),
            ((nine, nine, nine), (nine, 0, 0, 0, 0)),
        ):
            self.fails(self.two("join", one, other), "great")
        self.tells(self.two("join", (nine, nine, nine), (nine, 0, 0, 0)), (nine, nine, nine, nine, 0, 0, 0))

    def test_join_of_other_kinds(self):
        for one, other in ((1, 2), (1, "a"), ("a", 1), ("a", ()), ((), "a"), ("", ()), ((1,), 1), (1, ()), (0, "")):
            self.fails(self.two("join", one, other), "kind")

    def test_same(self):
        given = (0, 1, -1, "", "0", "1", "a", (), (0,), ("0",), ("",), ((),), (1, 2), (2, 1), (1, (2,)), (1, 2, 3))
        for k, one in enumerate(given):
            for j, other in enumerate(given):
                self.tells(self.two("same", one, other), 1 if k == j else 0)
        self.tells(("same", ("got", 0), ("row", (put(1), put("a")))), 1, [(1, "a")])

    def test_less(self):
        for one, other in ((0, 1), (-1, 0), (-2, -1), (-10 ** 18, 10 ** 18), (9, 10)):
            self.tells(self.two("less", one, other), 1)
            self.tells(self.two("less", other, one), 0)
            self.tells(self.two("less", one, one), 0)

    def test_less_of_other_kinds(self):
        for one, other in ((1, "a"), ("a", 1), ("a", "b"), ((), ()), ((1,), (2,)), (1, ()), ((), 1), ("1", "2")):
            self.fails(self.two("less", one, other), "kind")

    def test_the_first_from_the_left_that_fails(self):
        kind, great = ("many", put(1)), ("sum", put(10 ** 18), put(1))
        part = ("part", put(()), put(0))
        for word in ("part", "sum", "join", "same", "less"):
            self.fails((word, kind, great), "kind")
            self.fails((word, great, kind), "great")
            self.fails((word, put(1), part), "part")
            self.fails((word, part, put("a")), "part")
        self.fails(("row", (put(1), part, kind, great)), "part")
        self.fails(("row", (great, part, kind)), "great")
        self.fails(("many", great), "great")
        self.fails(("row", (put(1), ("row", (put(2), ("many", great))), kind)), "great")

    def test_what_is_within_fails_ahead_of_what_is_around(self):
        part = ("part", put((1,)), put(1))
        self.fails(("sum", put("a"), part), "part")
        self.fails(("part", put(1), part), "part")
        self.fails(("row", (put(things.nested(0, 4)), part)), "part")

    def test_within_one_another(self):
        counted = ("sum", ("many", ("got", 0)), ("part", ("got", 1), put(0)))
        self.tells(counted, 5, ["abc", (2,)])
        self.tells(("less", counted, put(6)), 1, ["abc", (2,)])
        self.tells(("join", ("row", (counted,)), ("got", 1)), (5, 2), ["abc", (2,)])

    def test_twenty_deep_and_somewhat_beyond(self):
        expr = put("abc")
        for depth in range(1, 60):
            self.tells(expr, "abc" + "-" * min(depth - 1, 17))
            expr = ("join", expr, put("-" if depth <= 17 else ""))

    def test_rows_and_values_got_stay(self):
        got = [1, "a", (2, ("b",))]
        expr = ("row", (("got", 2), ("join", ("got", 2), ("row", (("got", 0),))), ("sum", ("got", 0), put(4))))
        kept = copy.deepcopy((expr, got))
        told = told_by(expr, got)
        self.assertEqual((expr, got), kept)
        got[2] = "other"
        got.append(5)
        self.assertEqual(told, ("value", ((2, ("b",)), (2, ("b",), 1), 5)))
        self.assertEqual(told_by(expr, kept[1]), told)

    def test_a_value_or_a_failing_comes_always(self):
        source = things.source(13)
        seen = {}
        for _ in range(6000):
            expr = any_expr(source, 4, 3)
            got = [small(source) for _ in range(3)]
            if not is_expr(expr, 3):
                continue
            told = told_by(expr, got)
            self.assertEqual(told, plain_told(expr, got))
            self.assertIs(type(told), tuple)
            if told[0] == "value":
                self.assertIs(is_value(told[1]), True)
            seen[told if told[0] == "fails" else "value"] = True
        self.assertEqual(set(seen), {"value", KIND, PART, GREAT})


def small(source):
    found = things.value(source, 2)
    return found if is_value(found) else 0


def any_expr(source, depth, many):
    if depth == 0 or source.random() < 0.2:
        return ("got", source.randrange(many)) if source.random() < 0.5 else put(small(source))
    word = source.choice(["row", "many", "part", "sum", "join", "same", "less"])
    if word == "row":
        return ("row", tuple([any_expr(source, depth - 1, many) for _ in range(source.randint(0, 3))]))
    return (word,) + tuple([any_expr(source, depth - 1, many) for _ in range(1 if word == "many" else 2)])


class Failing(Exception):
    pass


def plain_told(expr, got):
    """The same told in another way: failings as Python's errors."""
    try:
        return ("value", worked(expr, got))
    except Failing as failing:
        return ("fails", str(failing))


def worked(expr, got):
    word = expr[0]
    if word in ("put", "got"):
        return expr[1] if word == "put" else got[expr[1]]
    parts = [worked(part, got) for part in (expr[1] if word == "row" else expr[1:])]
    kinds = [type(part) for part in parts]
    need(word != "many" or kinds[0] is not int, "kind")
    need(word != "part" or kinds == [tuple, int], "kind")
    need(word not in ("sum", "less") or kinds == [int, int], "kind")
    need(word != "join" or kinds in ([str, str], [tuple, tuple]), "kind")
    need(word != "part" or parts[1] in range(len(parts[0])), "part")
    found = {
        "row": lambda: tuple(parts),
        "many": lambda: len(parts[0]),
        "part": lambda: parts[0][parts[1]],
        "sum": lambda: sum(parts),
        "join": lambda: parts[0] + parts[1],
        "same": lambda: int(kinds[0] is kinds[1] and parts[0] == parts[1]),
        "less": lambda: int(parts[0] < parts[1]),
    }[word]()
    need(is_value(found), "great")
    return found


def need(holds, word):
    if not holds:
        raise Failing(word)


if __name__ == "__main__":
    unittest.main()
