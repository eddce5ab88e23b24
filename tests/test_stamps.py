"""Point 11: values written as stamps, and texts read as values."""

import itertools
import unittest

from redo.stamps import stamp_of, value_by
from redo.values import is_value
import things

PAIRS = (
    (0, "0"), (7, "7"), (-7, "-7"), (10, "10"), (-100, "-100"), (1234567890, "1234567890"),
    (10 ** 18, "1000000000000000000"), (-10 ** 18, "-1000000000000000000"), (10 ** 18 - 1, "9" * 18),
    ("", "'"), ("a", "'a"), ("0", "'0"), ("007", "'007"), ("-", "'-"), ("-0", "'-0"), ("a-b9", "'a-b9"),
    ("z" * 20, "'" + "z" * 20), ("7" * 20, "'" + "7" * 20),
    ((), "()"), ((0,), "(0)"), (("",), "(')"), (("", ""), "(',')"), (((),), "(())"), (((), ()), "((),())"),
    ((1, "a", -2), "(1,'a,-2)"), ((1, ("b", (2, ("c",)))), "(1,('b,(2,('c))))"), (((((0,),),),), "((((0))))"),
    (((((),),),), "(((())))"), ((1,) * 8, "(1,1,1,1,1,1,1,1)"), (("1", 1), "('1,1)"),
)


class Exact(unittest.TestCase):
    def same(self, value, wanted):
        """1 and True are the same to Python, so kinds are compared by their shown words."""
        self.assertEqual(value, wanted)
        self.assertEqual(repr(value), repr(wanted))


class Written(Exact):
    def test_stamps(self):
        for value, stamp in PAIRS:
            with self.subTest(stamp=stamp):
                self.same(stamp_of(value), stamp)

    def test_somewhat_beyond_the_bounds(self):
        self.assertEqual(stamp_of(things.nested(1, 5)), "(((((1)))))")
        self.assertEqual(stamp_of((1,) * 9), "(1,1,1,1,1,1,1,1,1)")


class Read(Exact):
    def none(self, *texts):
        for text in texts:
            with self.subTest(text=text[:60]):
                self.assertIsNone(value_by(text))

    def test_values(self):
        for value, stamp in PAIRS:
            with self.subTest(stamp=stamp):
                self.same(value_by(stamp), value)

    def test_numbers_in_another_form(self):
        self.none("", "00", "01", "007", "-0", "-00", "-01", "+0", "+1", "--1", "-", "1-", "1-2", "- 1", "1_0", "1.0")
        self.none("1e5", "0x1", "0b1", "(01)", "(-0)", "(1,00)", "a", "abc", "1a", "\u0663", "\u00b2", "\uff11")

    def test_numbers_beyond_the_bounds(self):
        self.none("1000000000000000001", "-1000000000000000001", "9" * 19, "-" + "9" * 19, "1" + "0" * 19)
        self.none("1" * 2000, "-" + "1" * 1999, "0" * 2000, "(" + "9" * 1998 + ")", "9" * 6000)

    def test_blanks(self):
        self.none(" ", " 1", "1 ", "' a", "'a ", " 'a", "( )", " ()", "() ", "(1, 2)", "(1 ,2)", "1\n", "\n1", "'a\n")
        self.none("\t1", "1\t", "'\n")

    def test_texts(self):
        self.none("'" + "a" * 21, "('" + "a" * 21 + ")", "'A", "'a b", "''", "'a'", "'+", "'_", "\"a", "'\u00e4")
        self.none("'" + "a" * 1999, "'%", "'a'b", "'.", "'\u0663")

    def test_broad_rows(self):
        self.none("(1,1,1,1,1,1,1,1,1)", "((1,1,1,1,1,1,1,1,1))", "(" + "1," * 998 + "1)", "(" + "'," * 8 + "')")

    def test_deep_rows(self):
        self.none("((((()))))", "(((((0)))))", "(1,(2,(3,(4,(5)))))", "(0,((((0)))))")

    def test_great_rows(self):
        forty = "((0,0,0,0,0,0,0,0),(0,0,0,0,0,0,0,0),(0,0,0,0,0,0,0,0),(0,0,0,0,0,0,0),0,0,0,0)"
        self.same(value_by(forty), ((0,) * 8, (0,) * 8, (0,) * 8, (0,) * 7, 0, 0, 0, 0))
        self.none("((0,0,0,0,0,0,0,0),(0,0,0,0,0,0,0,0),(0,0,0,0,0,0,0,0),(0,0,0,0,0,0,0,0),0,0,0,0)")
        self.none(stamp_of(things.shared(0, 3))[:2000], stamp_of(things.shared(0, 2)), stamp_of(things.shared((), 2)))

    def test_parts_of_no_signs(self):
        self.none("(,)", "(1,)", "(,1)", "(1,,2)", "((),)", "(,())", "(',)", "(,')", ",", ",,", "1,", ",1", "'a,")

    def test_open_and_needless_brackets(self):
        self.none("(", ")", "(1", "1)", "((1)", "(1))", "())", "(()", ")(", "(1,2", "1,2)", "('a", "'a)", "(1,", "((")
        self.none("(1)(", "(1()", "(()1)", "()()", "(1,(2)", "(a)", "((1),2))")

    def test_anything_behind(self):
        self.none("1,2", "0 0", "()1", "1()", "()'a", "'a()", "(1)(2)", "(1),", "(1),2", "'a,'b", "0'", "1'a", "(1)'")

    def test_two_thousand_brackets(self):
        self.none("(" * 2000, ")" * 2000, "(" * 1000 + ")" * 1000, ")" * 1000 + "(" * 1000, "()" * 1000)
        self.none("(" * 999 + "11" + ")" * 999, "((((" + "()" * 998, "(1," * 666, "('" * 1000, "(())" * 500)
        self.none("(" * 5000 + ")" * 5000)

    def test_the_text_stays_one_of_no_other_kind(self):
        self.assertIs(type(value_by("1")), int)
        self.assertIs(type(value_by("0")), int)
        self.assertIs(type(value_by("'1")), str)
        self.assertIs(type(value_by("(1)")), tuple)


class Both(Exact):
    def test_all_short_texts(self):
        """Each text of up to five signs: read only as a value whose stamp it is."""
        read = {}
        for many in range(6):
            for signs in itertools.product("019-'(),a+", repeat=many):
                text = "".join(signs)
                value = value_by(text)
                if value is not None:
                    self.assertIs(is_value(value), True)
                    self.same(stamp_of(value), text)
                    read[text] = value
        self.assertEqual(sorted(read), sorted(short_stamps("019", "019a-", 5)))

    def test_there_and_back(self):
        source = things.source(11)
        stamps = {}
        for _ in range(3000):
            value = things.value(source)
            stamp = stamp_of(value)
            self.assertEqual(stamps.setdefault(stamp, value), value)
            if is_value(value):
                self.same(value_by(stamp), value)
            else:
                self.assertIsNone(value_by(stamp))

    def test_one_sign_changed(self):
        source = things.source(12)
        for _ in range(3000):
            stamp = stamp_of(things.value(source))
            at = source.randint(0, len(stamp))
            text = stamp[:at] + source.choice(["", "(", ")", ",", "'", "-", "0", "a", "+", " "]) + stamp[at + 1:]
            value = value_by(text)
            if value is not None:
                self.assertIs(is_value(value), True)
                self.same(stamp_of(value), text)


def short_stamps(figures, signs, most):
    """All stamps of values of at most so many signs (below six no bound of 3 is met), by their form alone."""
    by_length = [[] for _ in range(most + 1)]
    for many in range(1, most + 1):
        here = by_length[many]
        for parts in itertools.product(figures, repeat=many):
            here.append("".join(parts))
        for parts in itertools.product(figures, repeat=many - 1):
            here.append("-" + "".join(parts))
        for parts in itertools.product(signs, repeat=many - 1):
            here.append("'" + "".join(parts))
        here[:] = [text for text in here if text[0] == "'" or plain(text)]
        here.extend(["(" + inner + ")" for inner in inners(by_length, many - 2)])
    return [text for texts in by_length for text in texts]


def plain(number):
    figures = number[1:] if number[0] == "-" else number
    return figures != "" and number != "-0" and (figures == "0" or figures[0] != "0")


def inners(by_length, many):
    if many == 0:
        return [""]
    found = list(by_length[many]) if many > 0 else []
    for first in range(1, many - 1):
        for head in by_length[first]:
            found.extend([head + "," + rest for rest in inners(by_length, many - first - 1) if rest != ""])
    return found


if __name__ == "__main__":
    unittest.main()
