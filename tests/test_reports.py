"""Points 100 and 101: lines, papers, results, rows of a log and reasons as texts."""

import re
import unittest

import things
from redo.errors import BadLine, RedoError
from redo.lines import is_line
from redo.reports import line_by, line_text, log_text, paper_by, paper_texts, reason_text, result_text
from redo.stamps import stamp_of, value_by

NAME = "[a-z]{1,8}"


def is_line_text(text):
    """Whether a text writes a line, read by signs."""
    found = re.fullmatch(rf"{NAME}((?: {NAME} \S+){{0,12}}) : (?:made (\S+)|fails {NAME}|wants {NAME})", text)
    if found is None or "\n" in text:
        return False
    stamps = found[1].split(" ")[2::2] + ([found[2]] if found[2] is not None else [])
    return all(value_by(stamp) is not None for stamp in stamps)


LINES = {
    "a : made 1": ("a", (), ("made", "1")),
    "a : made '": ("a", (), ("made", "'")),
    "a : made ()": ("a", (), ("made", "()")),
    "a : fails x": ("a", (), ("fails", "x")),
    "a : wants a": ("a", (), ("wants", "a")),
    "made : made -1": ("made", (), ("made", "-1")),
    "fails : fails fails": ("fails", (), ("fails", "fails")),
    "wants wants 'wants : wants wants": ("wants", (("wants", "'wants"),), ("wants", "wants")),
    "bread dough 3 : made (3)": ("bread", (("dough", "3"),), ("made", "(3)")),
    "bread dough 3 dough 3 : fails burnt": ("bread", (("dough", "3"), ("dough", "3")), ("fails", "burnt")),
    "abcdefgh b -5 c '-5 d ((),'x,1) : wants zz": (
        "abcdefgh", (("b", "-5"), ("c", "'-5"), ("d", "((),'x,1)")), ("wants", "zz")),
    "a" + " b 0" * 12 + " : made 0": ("a", (("b", "0"),) * 12, ("made", "0")),
}

NONE = (
    "", " ", ":", "a", "a :", "a : ", "a : made", "a : made ", ": made 1", " : made 1", "a made 1", "a : 1",
    "a : made 1 ", " a : made 1", "a  : made 1", "a :  made 1", "a : made  1", "a: made 1", "a :made 1", "a : made 1 2",
    "a : : made 1", "a : made : 1", "a : made 1 :", "a ; made 1", "a b : made 1", "a b 1 c : made 1", "a 1 : made 1",
    "a b 1 2 : made 1", "a b 1 : made 1 : made 1", "a b 1 made 1", "a b 1 c made 1", "a b : : made 1",
    "A : made 1", "abcdefghi : made 1", "a1 : made 1", "a B 1 : made 1", "a abcdefghi 1 : made 1", "a b1 1 : made 1",
    "a b 01 : made 1", "a b -0 : made 1", "a b +1 : made 1", "a b x : made 1", "a b '' : made 1", "a b (1 : made 1",
    "a b (1,) : made 1", "a b 1000000000000000001 : made 1", "a b '123456789012345678901 : made 1",
    "a : made 01", "a : made x", "a : made 'X", "a : made (1", "a : made 1,2", "a : made ((((()))))",
    "a : fails 1", "a : fails 'x", "a : fails X", "a : fails abcdefghi", "a : wants 1", "a : wants 'b", "a : wants B",
    "a : lacks b", "a : Made 1", "a : done 1", "a : want b", "a : wants", "a : fails", "a : lacks", "a : peeks b",
    "a" + " b 0" * 13 + " : made 0", "a" + " b 0" * 14 + " : made 0", "a" + " b 0" * 400 + " : made 0",
    "a : made 1\n", "a\n: made 1", "\na : made 1", "a\t: made 1", "a : made\n1", "-", "a : made 1; b : made 2",
)


class LineTexts(unittest.TestCase):
    def test_of_each_line_its_text_and_the_line_again(self):
        for text, line in LINES.items():
            self.assertIs(is_line(line), True)
            self.assertEqual(line_text(line), text)
            self.assertEqual(repr(line_by(text)), repr(line))
            self.assertIs(is_line_text(text), True)

    def test_of_any_other_text_none(self):
        for text in NONE:
            with self.subTest(text=text):
                self.assertIsNone(line_by(text))
                self.assertIs(is_line_text(text), False)

    def test_values_of_all_sizes(self):
        greatest = ("a" * 20, ("b" * 20,) * 8, ("c" * 20,) * 8, ("-" * 20,) * 8, ("0" * 20,) * 8)
        for value in (greatest, things.FORTY, -10 ** 18, 10 ** 18, "", "-" * 20, ((((),),),)):
            stamp = stamp_of(value)
            line = ("abcdefgh", (("zzzzzzzz", stamp),) * 12, ("made", stamp))
            self.assertIs(is_line(line), True)
            self.assertEqual(line_by(line_text(line)), line)

    def test_drawn_lines(self):
        source = things.source(100)
        seen = set()
        for _ in range(600):
            line = drawn_line(source)
            self.assertIs(is_line(line), True)
            text = line_text(line)
            self.assertIs(type(text), str)
            self.assertEqual(repr(line_by(text)), repr(line))
            self.assertEqual(things.line_by(text), line)
            seen.add((len(line[1]), line[2][0]))
        self.assertGreater(len(seen), 25)

    def test_bent_texts(self):
        """A text that a line is read of is just the text of that line."""
        source = things.source(101)
        seen = {True: 0, False: 0}
        for _ in range(4000):
            text = bent(source, line_text(drawn_line(source)))
            told = line_by(text)
            self.assertEqual(told is not None, is_line_text(text), text)
            seen[told is not None] += 1
            if told is not None:
                self.assertIs(is_line(told), True)
                self.assertEqual(line_text(told), text)
        self.assertGreater(min(seen.values()), 200, seen)

    def test_each_word_left_out_put_in_doubled_or_changed(self):
        for text in LINES:
            words = text.split(" ")
            for place in range(len(words)):
                for some in (words[:place] + words[place + 1:], words[:place] + ["b"] + words[place:],
                             words[:place] + [words[place]] + words[place:], words[:place] + [""] + words[place:],
                             words[:place] + ["?"] + words[place + 1:], words[:place] + [":"] + words[place:]):
                    self.assertIsNone(line_by(" ".join(some)), some)

    def test_long_texts(self):
        for text in ("a " * 30000, "a" * 70000, "(" * 70000, "a : made " + "(" * 60000, " " * 70000, ":" * 70000,
                     "a b " + "1" * 60000 + " : made 1", "a : made (" + "1," * 30000 + "1)"):
            self.assertIsNone(line_by(text))


def drawn_line(source):
    name = "".join([source.choice("abyz") for _ in range(source.choice([1, 2, 8]))])
    reads = tuple([(source.choice(["b", "abcdefgh", name]), drawn_stamp(source)) for _ in range(source.randint(0, 12))])
    end = source.choice([("made", drawn_stamp(source)), ("fails", "x"), ("wants", "abcdefgh")])
    return (name, reads, end)


def drawn_stamp(source):
    stamp = stamp_of(things.value(source, 2))
    return stamp if value_by(stamp) is not None else "7"


def bent(source, text):
    words = text.split(" ")
    for _ in range(source.choice([1, 1, 2])):
        place = source.randrange(len(words))
        way = source.randrange(6)
        if way == 0 and len(words) > 1:
            words.pop(place)
        elif way == 1:
            words.insert(place, source.choice(["b", "1", ":", "", "made", "wants"]))
        elif way == 2:
            words[place] = source.choice(["b", "1", ":", "", "made", "fails", "wants", "'x", "(1)", "B", "01"])
        elif way == 3:
            words[place:place] = ["b", source.choice(["1", "'", "()", "x"])]
        elif way == 4:
            words[place] = words[place][:-1] + source.choice(["", "a", "0", ")", "\n"])
        else:
            words[place:place + 2] = words[place:place + 2][::-1]
    return " ".join(words)


class PaperTexts(unittest.TestCase):
    def test_papers(self):
        for paper in ([], list(LINES.values()), list(LINES.values())[:1] * 3, [("b", (), ("wants", "a"))] * 101):
            given = repr(paper)
            texts = paper_texts(paper)
            self.assertEqual([type(texts), len(texts)], [list, len(paper)])
            self.assertEqual(texts, [line_text(line) for line in paper])
            shown = list(texts)
            told = paper_by(texts)
            self.assertIs(type(told), list)
            self.assertEqual(told, paper)
            self.assertEqual((repr(paper), texts), (given, shown))
            told.append(1)
            self.assertEqual(paper_by(texts), paper)
        self.assertEqual(paper_texts(list(LINES.values())), list(LINES))

    def test_not_asked_whether_it_is_let_by(self):
        self.assertEqual(paper_by(["a b 1 : made 2", "a : fails x"]),
                         [("a", (("b", "1"),), ("made", "2")), ("a", (), ("fails", "x"))])

    def test_the_place_of_the_first_that_writes_no_line(self):
        good = list(LINES)
        for text in NONE:
            self.refused([text], 0)
            self.refused([text, text], 0)
            self.refused(good + [text], len(good))
            self.refused(good[:3] + [text] + good, 3)
            self.refused(good[:3] + [text] + good + [""], 3)
            self.refused(good[:1] + [text, ":"], 1)

    def refused(self, texts, at):
        given = list(texts)
        with self.assertRaises(RedoError) as caught:
            paper_by(texts)
        self.assertIs(type(caught.exception), BadLine)
        self.assertEqual((caught.exception.at, type(caught.exception.at)), (at, int))
        self.assertEqual(texts, given)


class Texts(unittest.TestCase):
    def test_results(self):
        for result, text in (
                (("made", 1), "made 1"), (("made", -10 ** 18), "made -1000000000000000000"), (("made", ""), "made '"),
                (("made", "by"), "made 'by"), (("made", ()), "made ()"),
                (("made", (1, "x", ((),))), "made (1,'x,(()))"),
                (("fails", ("a",), "burnt"), "fails burnt by a"),
                (("fails", ("abcdefgh", "b", "c"), "by"), "fails by by abcdefgh b c"),
                (("lacks", ("a",)), "lacks by a"), (("lacks", ("a", "zz")), "lacks by a zz"),
                (("ring", ("a", "a")), "ring by a a"), (("ring", ("c", "a", "b", "a")), "ring by c a b a"),
                (("lacks", ("no name", "")), "lacks by no name "),
                (("ring", tuple(things.names(40)) + ("aa",)), "ring by " + " ".join(things.names(40)) + " aa")):
            self.assertEqual(result_text(result), text)

    def test_rows_of_a_log(self):
        for word in ("kept", "done", "fetched", "untold", "stale"):
            self.assertEqual(log_text((word, "a")), word + " a")
            self.assertEqual(log_text((word, "abcdefgh")), word + " abcdefgh")

    def test_reasons(self):
        for reason, text in (
                (None, "-"), (("none",), "none"), (("recipe",), "recipe"),
                (("read", 0, "a", "1", ("made", "2")), "read 0 a 1 made 2"),
                (("read", 11, "abcdefgh", "'", ("made", "()")), "read 11 abcdefgh ' made ()"),
                (("read", 3, "a", "(1,'x)", ("fails", "burnt")), "read 3 a (1,'x) fails burnt"),
                (("read", 1, "b", "1", ("wants", "c")), "read 1 b 1 wants c"),
                (("read", 2, "b", "-1", ("lacks",)), "read 2 b -1 lacks"),
                (("wanted", "m", "1"), "wanted m 1"), (("wanted", "m", "'m"), "wanted m 'm")):
            self.assertEqual(reason_text(reason), text)
            self.assertIs(type(reason_text(reason)), str)


if __name__ == "__main__":
    unittest.main()
