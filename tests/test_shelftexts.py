"""Point 76: entries and shelves written as texts, and read from such."""

import unittest

import plain
import things
from redo.errors import BadLine, RedoError
from redo.recipetexts import read_recipe, show_recipe
from redo.shelf import Shelf
from redo.shelftexts import entry_by, entry_text, shelf_by, written
from redo.stamps import stamp_of

ONE = "want put 'b say got 0"
TWO = "want put 'b want got 0 say row 2 got 0 got 1"
TWELVE = "want put 'b " * 12 + "say got 11"

# Of each entry its text.
PAIRS = (
    (things.entry("say put 1", ": made 1"), "made 1 0 say put 1"),
    (things.entry("say put -7", ": made -7"), "made -7 0 say put -7"),
    (things.entry("say put '", ": made '"), "made ' 0 say put '"),
    (things.entry("say put (1,('x,()))", ": made (1,('x,()))"), "made (1,('x,())) 0 say put (1,('x,()))"),
    (things.entry("fail sour", ": fails sour"), "fails sour 0 fail sour"),
    (things.entry("fail peek", ": fails peek"), "fails peek 0 fail peek"),
    (things.entry("fail made", ": fails made"), "fails made 0 fail made"),
    (things.entry("want put 7 say put 1", ": fails name"), "fails name 0 want put 7 say put 1"),
    (things.entry(ONE, "b 1 : made 1"), "made 1 1 b 1 " + ONE),
    (things.entry(ONE, "b ' : made '"), "made ' 1 b ' " + ONE),
    (things.entry(ONE, "b () : made ()"), "made () 1 b () " + ONE),
    (things.entry("want put 'say say got 0", "say 'put : made 'put"), "made 'put 1 say 'put want put 'say say got 0"),
    (things.entry(TWO, "b 'c c 5 : made ('c,5)"), "made ('c,5) 2 b 'c c 5 " + TWO),
    (things.entry(TWO, "b 5 : fails name"), "fails name 1 b 5 " + TWO),
    (things.entry(TWELVE, "b 1 " * 11 + "b 2 : made 2"), "made 2 12 " + "b 1 " * 11 + "b 2 " + TWELVE),
    (things.entry("want put 'b " * 10 + "fail x", "b 1 " * 10 + ": fails x"),
     "fails x 10 " + "b 1 " * 10 + "want put 'b " * 10 + "fail x"),
)


class Texts(unittest.TestCase):
    def none(self, *texts):
        for text in texts:
            with self.subTest(text=text[:200]):
                self.assertIsNone(entry_by(text))
                self.refused([text], 0)
                self.refused(["made 1 0 say put 1", text, ""], 1)

    def refused(self, texts, at):
        with self.assertRaises(BadLine) as caught:
            shelf_by(texts)
        self.assertIs(type(caught.exception), BadLine)
        self.assertIsInstance(caught.exception, RedoError)
        self.assertEqual(caught.exception.at, at)
        self.assertIs(type(caught.exception.at), int)


class Entry(Texts):
    def test_the_text_of_each(self):
        for entry, text in PAIRS:
            self.assertEqual(entry_text(entry), text)
            self.assertEqual(repr(entry_by(text)), repr(entry))

    def test_great_ones(self):
        great = stamp_of(things.FORTY)
        recipe = show_recipe(("want", ("put", "b"), ("say", things.chain(2, ("put", things.FORTY)))))
        for entry in (
            things.entry("say put " + great, f": made {great}"), things.entry(ONE, f"b {great} : made {great}"),
            things.entry(TWELVE, f"b {great} " * 12 + f": made {great}"), things.entry(recipe, f"b {great} : made 8"),
            things.entry(ONE, f"b {10 ** 18} : made {10 ** 18}"),
            things.entry(ONE, f"b {-10 ** 18} : made {-10 ** 18}"),
        ):
            self.assertEqual(repr(entry_by(entry_text(entry))), repr(entry))
            self.assertEqual(shelf_by([entry_text(entry)]).entries(), [entry])

    def test_of_drawn_entries_the_entry_again(self):
        source = things.source(760)
        seen = {}
        for _ in range(150):
            for entry in things.entries(source, things.book(source, things.HONEST)):
                text = entry_text(entry)
                self.assertEqual(repr(entry_by(text)), repr(entry))
                self.assertEqual(seen.setdefault(text, entry), entry)
        self.assertGreater(len(seen), 300)

    def test_texts_of_few_words(self):
        self.none("", " ", "  ", "made", "made 1", "made 1 0", "made 1 0 ", "fails x", "fails x 0", "1", "say put 1",
                  "0 say put 1", "made 1 1 b 1", "made 1 1 b", "made 1 1", "made 1 1 b 1 ", "\n", "made 1 0 say")

    def test_a_word_left_out(self):
        for _, text in PAIRS:
            words = text.split(" ")
            self.none(*[" ".join(words[:k] + words[k + 1:]) for k in range(len(words))])

    def test_a_word_put_in(self):
        for _, text in PAIRS[::2]:
            words = text.split(" ")
            for more in ("b", "1", "made", "say", "0", "put", "'"):
                self.none(*[" ".join(words[:k] + [more] + words[k:]) for k in range(len(words) + 1)])

    def test_a_word_doubled(self):
        for _, text in PAIRS:
            words = text.split(" ")
            self.none(*[" ".join(words[:k + 1] + words[k:]) for k in range(len(words))])

    def test_a_word_changed(self):
        for _, text in PAIRS:
            words = text.split(" ")
            for other in ("zz", "77", "made", "fails", "'", "", "put", "peek", "want"):
                bent = [" ".join(words[:k] + [other] + words[k + 1:]) for k in range(len(words)) if words[k] != other]
                # Another word can write another entry, such as another text to say for which nobody asks.
                self.none(*[one for one in bent if not self.is_written(one)])

    def is_written(self, text):
        """Whether it writes an entry: by the words' own form, and by a plain reading of what an entry is."""
        words = text.split(" ")
        for many in range(13):
            if words[2:3] == [str(many)] and len(words) > 3 + 2 * many:
                reads = tuple(zip(words[3:3 + 2 * many:2], words[4:3 + 2 * many:2]))
                return self.is_plain_entry(" ".join(words[3 + 2 * many:]), reads, (words[0], words[1]))
        return False

    def is_plain_entry(self, text, reads, end):
        try:
            read_recipe(text)
        except RedoError:
            return False
        names, stamps = [name for name, _ in reads], [stamp for _, stamp in reads]
        if end[0] == "made":
            stamps.append(end[1])
        if any(plain.value_by(stamp) is None for stamp in stamps):
            return False
        return all(name.isalpha() and name.islower() for name in names) and plain.is_entry(text, reads, end)

    def test_two_blanks_and_blanks_ahead_or_behind(self):
        for _, text in PAIRS:
            self.none(" " + text, text + " ", "  " + text, text + "  ", "\n" + text, text + "\n", "\t" + text)
            at = [k for k, sign in enumerate(text) if sign == " "]
            self.none(*[text[:k] + " " + text[k:] for k in at])
            self.none(*[text[:k] + "\t" + text[k + 1:] for k in at], *[text[:k] + "\n" + text[k + 1:] for k in at])
            self.none(*[text[:k] + text[k + 1:] for k in at])

    def test_another_number_of_reads(self):
        for (recipe, reads, end), text in PAIRS:
            words = text.split(" ")
            for many in range(15):
                if many != len(reads):
                    self.none(" ".join(words[:2] + [str(many)] + words[3:]))

    def test_numbers_that_are_none(self):
        for _, text in PAIRS:
            words = text.split(" ")
            for many in ("0" + words[2], "00" + words[2], "-" + words[2], "+" + words[2], words[2] + "0", "", "x", "'1",
                         words[2] + ".", words[2] + ".0", "(" + words[2] + ")", "-1", "1_2", "\u0661", "\u00b2",
                         "9" * 18, "9" * 5000, "1" * 60000):
                self.none(" ".join(words[:2] + [many] + words[3:]))
        self.none("made 1 00 say put 1", "made 1 01 b 1 " + ONE, "made 1 -0 say put 1")

    def test_stamps_that_are_none(self):
        say = "want put 'b say put 5"
        for stamp in ("", "01", "-0", "+1", "x", "'B", "'" + "x" * 21, "(1", "(1,)", "1)", "((((()))))", "--1", "1.0",
                      "1000000000000000001", stamp_of(things.FORTY + (1,)), "(" * 1000, "9" * 5000, "~", "'\n"):
            self.none(f"made 5 1 b {stamp} {say}", f"made {stamp} 0 say put 1", f"made {stamp} 1 b 1 {ONE}",
                      f"made {stamp} 0 say put {stamp}", f"made {stamp} 1 b {stamp} {ONE}")
        self.assertEqual(entry_by("made 5 1 b 1 " + say), things.entry(say, "b 1 : made 5"))

    def test_names_that_are_none(self):
        for name in ("", "B", "b1", "abcdefghi", "'b", "-", "1"):
            self.none(f"made 1 1 {name} 1 {ONE}", f"fails {name} 0 fail {name}")
        self.assertIsNotNone(entry_by("fails abcdefgh 0 fail abcdefgh"))

    def test_an_end_that_the_recipe_does_not_come_to(self):
        self.none("made 2 0 say put 1", "fails x 0 say put 1", "made 1 0 fail x", "fails y 0 fail x",
                  "made '1 0 say put 1", "made 2 1 b 1 " + ONE, "fails kind 1 b 1 " + ONE, "made 1 0 " + ONE,
                  "made ('c,6) 2 b 'c c 5 " + TWO,
                  "made 1 1 c 1 " + ONE, "made 1 2 b 1 b 1 " + ONE, "fails kind 0 want put 7 say put 1")

    def test_an_end_with_wants(self):
        self.none("wants b 0 " + ONE, "wants c 1 b 'c " + TWO, "wants b 1 b 1 " + ONE, "lacks b 0 " + ONE,
                  "strays 0 0 " + ONE, "value 1 0 say put 1", "Made 1 0 say put 1", "MADE 1 0 say put 1",
                  "make 1 0 say put 1", "fail sour 0 fail sour", " 1 0 say put 1")

    def test_a_recipe_with_a_peek(self):
        self.none("made 1 0 peek put 'b say put 1", "made 1 1 b 1 peek put 'b say got 0",
                  "fails name 0 peek put 7 say put 1", "made 1 0 when put 1 say put 1 peek put 'b say put 1")

    def test_texts_that_are_no_recipe_s(self):
        for recipe in ("say put 01", "say", "say put 1 say put 1", "say got 0", "put 1", "1", "say put 1 ",
                       "say" + " many" * 19 + " put 1", "want put 'b " * 13 + "say put 1"):
            self.none("made 1 0 " + recipe, "fails kind 0 " + recipe, "made 1 1 b 1 " + recipe)
        self.none("made 1 0 " + "want put 'b " * 5000, "made 1 0 say " + "many " * 12000, "made 1 12 " + "b 1 " * 15000)

    def test_thirteen_reads(self):
        text = "want put 'b " * 13 + "say put 1"
        self.none("made 1 13 " + "b 1 " * 13 + text, "made 1 13 " + "b 1 " * 13 + TWELVE)

    def test_of_drawn_texts(self):
        """A text that is read at all is the text of the entry that it is read as."""
        source = things.source(761)
        seen = {True: 0, False: 0}
        for _ in range(100):
            for entry in things.entries(source, things.book(source, things.HONEST)):
                text = entry_text(entry)
                at = source.randrange(len(text))
                put = source.choice(["", " ", "a", "1", "'", "b", "0", "()"])
                text = text[:at] + put + text[at + source.randint(0, 1):]
                found = entry_by(text)
                self.assertEqual(found is not None, self.is_written(text), text)
                if found is not None:
                    self.assertEqual(entry_text(found), text)
                    self.assertIs(plain.is_entry(*found), True)
                seen[found is not None] += 1
        self.assertGreater(min(seen.values()), 20, seen)


class Shelves(Texts):
    def test_written(self):
        self.assertEqual(written(Shelf()), [])
        shelf = Shelf()
        for entry, _ in PAIRS[::-1]:
            shelf.put(entry)
        told = written(shelf)
        self.assertIs(type(told), list)
        self.assertEqual(told, [text for _, text in PAIRS[::-1]])
        told.clear()
        self.assertEqual(written(shelf), [text for _, text in PAIRS[::-1]])
        self.assertEqual(shelf.entries(), [entry for entry, _ in PAIRS[::-1]])

    def test_read(self):
        texts = [text for _, text in PAIRS]
        shelf = shelf_by(texts)
        self.assertIs(type(shelf), Shelf)
        self.assertEqual(shelf.entries(), [entry for entry, _ in PAIRS])
        self.assertEqual(written(shelf), texts)
        for recipe, reads, end in shelf.entries():
            self.assertEqual(shelf.found(recipe, reads), end)
            for k in range(len(reads)):
                self.assertEqual(shelf.found(recipe, reads[:k]), reads[k][0])
        self.assertEqual(texts, [text for _, text in PAIRS])

    def test_of_none(self):
        self.assertEqual(shelf_by([]).entries(), [])
        shelf_by([]).put(PAIRS[0][0])
        self.assertEqual(shelf_by([]).entries(), [])

    def test_an_entry_that_stands_twice_is_kept_once(self):
        texts = [text for _, text in PAIRS]
        for many in (texts + texts, texts + texts[::-1], [text for text in texts for _ in range(3)]):
            self.assertEqual(written(shelf_by(many)), texts)
        self.assertEqual(written(shelf_by(texts[:2] + texts[:1] + texts[2:3])), texts[:3])

    def test_a_hundred_entries_and_more(self):
        texts = [f"made {k} 1 b {k} {ONE}" for k in range(120)]
        self.assertEqual(written(shelf_by(texts[:100])), texts[:100])
        self.assertEqual(written(shelf_by(texts)), texts)

    def test_what_is_told_is_the_asker_s_own(self):
        texts = ["made 1 0 say put 1"]
        shelf = shelf_by(texts)
        shelf.put(PAIRS[5][0])
        texts.append("made 2 0 say put 2")
        self.assertEqual(written(shelf), ["made 1 0 say put 1", PAIRS[5][1]])
        self.assertEqual(written(shelf_by(["made 1 0 say put 1"])), ["made 1 0 say put 1"])

    def test_the_place_of_the_first_that_is_refused(self):
        texts = [text for _, text in PAIRS]
        for k in range(len(texts) + 1):
            for bad in ("", "made 1 0 say put 2", "made 1 0 peek put 'b say put 1", None, 7, True, [], ["made"], {}, (),
                        (texts[0],), [texts[0]], PAIRS[0][0], b"made 1 0 say put 1"):
                self.refused(texts[:k] + [bad] + texts[k:], k)
                self.refused(texts[:k] + [bad, bad] + texts[k:] + [bad], k)
        self.refused(texts[:1] * 5 + ["zz"], 5)

    def test_what_is_no_list(self):
        texts = ["made 1 0 say put 1"]
        for thing in (None, True, 0, 7, "", texts[0], "zz", (), tuple(texts), {}, {texts[0]: texts[0]}, {0: texts[0]},
                      tuple(PAIRS[0][0]), Shelf(), set(texts)):
            self.refused(thing, 0)
        for thing in things.odd_things():
            if not isinstance(thing, list) or thing:
                self.refused(thing, 0)

    def test_odd_things_in_a_list(self):
        for thing in things.odd_things():
            self.refused(["made 1 0 say put 1", thing], 1)
            self.refused([thing], 0)

    def test_what_is_refused_changes_nothing(self):
        texts = ["made 1 0 say put 1", "zz", ["q"]]
        self.refused(texts, 1)
        self.assertEqual(texts, ["made 1 0 say put 1", "zz", ["q"]])
        self.assertEqual(shelf_by([]).entries(), [])

    def test_drawn_shelves(self):
        source = things.source(762)
        for _ in range(60):
            shelf = Shelf()
            for entry in things.entries(source, things.book(source, things.HONEST)):
                shelf.put(entry)
            again = shelf_by(written(shelf))
            self.assertEqual(again.entries(), shelf.entries())
            self.assertEqual(written(again), written(shelf))


if __name__ == "__main__":
    unittest.main()
