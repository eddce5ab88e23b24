"""Points 74 and 75: what a shelf takes, keeps and tells."""

import unittest

import plain
import things
from redo.errors import Dishonest, RedoError
from redo.lines import is_right
from redo.recipetexts import read_recipe, show_recipe
from redo.shelf import Shelf
from redo.stamps import stamp_of

TWELVE = "want put 'b " * 12 + "say got 11"
TWO = "want put 'b want got 0 say row 2 got 0 got 1"

ENTRIES = (
    things.entry("say put 1", ": made 1"),
    things.entry("say row 2 put 'x put ()", ": made ('x,())"),
    things.entry("fail sour", ": fails sour"),
    things.entry("fail peek", ": fails peek"),
    things.entry("say put 'peek", ": made 'peek"),
    things.entry("say many put 1", ": fails kind"),
    things.entry("want put 7 say put 1", ": fails name"),
    things.entry("want put 'b say got 0", "b 1 : made 1"),
    things.entry("want put 'b say got 0", "b ' : made '"),
    things.entry("want put 'b say sum got 0 put 1", "b 'x : fails kind"),
    things.entry("want put 'b when got 0 fail x say put 2", "b 1 : fails x"),
    things.entry("want put 'b when got 0 fail x say put 2", "b 0 : made 2"),
    things.entry(TWO, "b 'c c 5 : made ('c,5)"),
    things.entry(TWO, "b 'b b 'b : made ('b,'b)"),
    things.entry(TWO, "b 5 : fails name"),
    things.entry(TWELVE, "b 1 " * 11 + "b 2 : made 2"),
    things.entry("want put 'b " * 12 + "fail x", "b () " * 12 + ": fails x"),
    things.entry(show_recipe(("say", things.expr_of(59))), ": fails great"),
    things.entry(show_recipe(("say", ("many", things.expr_of(40)))), ": made 8"),
)


def filled(entries):
    shelf = Shelf()
    for entry in entries:
        shelf.put(entry)
    return shelf


class Puts(unittest.TestCase):
    def refused(self, *things_put):
        """Refused with Dishonest, and nothing is put."""
        for thing in things_put:
            for entries in ([], [ENTRIES[0]], list(ENTRIES)):
                with self.subTest(thing=str(thing)[:200]):
                    shelf = filled(entries)
                    with self.assertRaises(Dishonest) as caught:
                        shelf.put(thing)
                    self.assertIs(type(caught.exception), Dishonest)
                    self.assertIsInstance(caught.exception, RedoError)
                    self.assertEqual(shelf.entries(), entries)
                    for entry in ENTRIES:
                        told = entry[2] if entry in entries else plain.found(entries, entry[0], entry[1])
                        self.assertEqual(shelf.found(entry[0], entry[1]), told)


class Entries(Puts):
    def test_an_empty_one(self):
        self.assertEqual(Shelf().entries(), [])
        self.assertIs(type(Shelf().entries()), list)
        for entry in ENTRIES:
            self.assertIsNone(Shelf().found(entry[0], ()))
            self.assertIsNone(Shelf().found(entry[0], entry[1]))

    def test_each_is_kept(self):
        for entry in ENTRIES:
            shelf = Shelf()
            self.assertIsNone(shelf.put(entry))
            self.assertEqual(repr(shelf.entries()), repr([entry]))
            self.assertEqual(shelf.found(entry[0], entry[1]), entry[2])
        self.assertEqual({len(entry[1]) for entry in ENTRIES} - {0, 1, 2}, {12})
        self.assertEqual({entry[2][0] for entry in ENTRIES}, {"made", "fails"})

    def test_in_the_order_in_which_they_were_put_first(self):
        source = things.source(74)
        for _ in range(30):
            many = source.choices(ENTRIES, k=40)
            shelf, wanted = Shelf(), []
            for entry in many:
                self.assertIsNone(shelf.put(entry))
                wanted += [entry] if entry not in wanted else []
                self.assertEqual(shelf.entries(), wanted)

    def test_twice_the_same(self):
        shelf = filled(ENTRIES[:3])
        for entry in ENTRIES[2::-1]:
            shelf.put((entry[0] + "", tuple(list(entry[1])), tuple(list(entry[2]))))
            self.assertEqual(shelf.entries(), list(ENTRIES[:3]))

    def test_one_recipe_by_many_reads(self):
        entries = [things.entry("want put 'b say got 0", f"b {k} : made {k}") for k in range(150)]
        shelf = filled(entries)
        self.assertEqual(shelf.entries(), entries)
        for entry in entries:
            self.assertEqual(shelf.found(entry[0], entry[1]), entry[2])

    def test_what_is_told_is_the_asker_s_own(self):
        shelf = filled(ENTRIES[:4])
        told = shelf.entries()
        told.append(ENTRIES[5])
        told.pop(0)
        self.assertEqual(shelf.entries(), list(ENTRIES[:4]))
        told = shelf.entries()
        shelf.put(ENTRIES[6])
        self.assertEqual(told, list(ENTRIES[:4]))
        told.clear()
        self.assertEqual(shelf.entries(), list(ENTRIES[:4]) + [ENTRIES[6]])
        self.assertEqual(shelf.found(ENTRIES[0][0], ()), ENTRIES[0][2])

    def test_two_shelves_have_nothing_in_common(self):
        one, other = Shelf(), Shelf()
        one.put(ENTRIES[0])
        self.assertEqual((one.entries(), other.entries()), ([ENTRIES[0]], []))
        self.assertIsNone(other.found("say put 1", ()))
        other.put(ENTRIES[7])
        other.put(ENTRIES[0])
        self.assertEqual((one.entries(), other.entries()), ([ENTRIES[0]], [ENTRIES[7], ENTRIES[0]]))
        self.assertIsNone(one.found(ENTRIES[7][0], ()))
        self.assertEqual(Shelf().entries(), [])


class NoEntries(Puts):
    def test_a_text_that_is_no_recipe_s(self):
        for text in (
            "", " ", "say", "say put", "say put 01", "say put 1 ", " say put 1", "say  put 1", "put 1", "1",
            "Say put 1", "say got 0", "say put 1 say put 1", "say put 1\n", "made 1", "saying", "want put 'b",
            "say\tput 1", "say" + " many" * 19 + " put 1", "want put 'b " * 13 + "say put 1",
            "want put 'b " * 2000 + "say put 1",
        ):
            for end in (("made", "1"), ("fails", "kind")):
                self.refused((text, (), end), (text, (("b", "1"),), end), (text, (("b", "1"),) * 12, end))

    def test_a_recipe_with_a_peek(self):
        self.refused(
            things.entry("peek put 'b say put 1", ": made 1"), things.entry("peek put 'b say put 1", "b 1 : made 1"),
            things.entry("peek put 7 say put 1", ": fails name"),
            things.entry("when put 1 say put 1 peek put 'b say put 1", ": made 1"),
            things.entry("when put 0 peek put 'b say put 1 fail x", ": fails x"),
            things.entry("want put 'b when got 0 peek put 'c say got 1 say put 5", "b 0 : made 5"),
        )

    def test_reads_left_out_put_in_turned_about(self):
        for entry in ENTRIES:
            text, reads, end = entry
            bent = [reads[:k] + reads[k + 1:] for k in range(len(reads))]
            bent += [reads[:k] + more + reads[k:] for k in range(len(reads) + 1) for more in ((("zz", "1"),),)]
            bent += [reads + reads[-1:], reads[::-1], reads[1:] + reads[:1], reads + reads]
            self.refused(*[(text, other, end) for other in bent if other != reads])

    def test_a_read_of_another_name_or_stamp(self):
        for text, reads, end in ENTRIES:
            for k, (name, stamp) in enumerate(reads):
                for read in (("z", stamp), (name + "b", stamp), (stamp[:8], name)):
                    self.refused((text, reads[:k] + (read,) + reads[k + 1:], end))
        one = "want put 'b say got 0"
        self.refused(things.entry(one, "b 2 : made 1"), things.entry(one, "b '1 : made 1"),
                     things.entry(one, "b (1) : made 1"), things.entry(TWO, "b 'c c 6 : made ('c,5)"),
                     things.entry(TWO, "b 'd c 5 : made ('c,5)"), things.entry(TWO, "b 'c c 5 : made ('d,5)"),
                     things.entry(TWELVE, "b 1 " * 11 + "b 1 : made 2"))

    def test_another_end(self):
        ends = [("made", "1"), ("made", "2"), ("made", "'"), ("made", "()"), ("fails", "x"), ("fails", "kind"),
                ("fails", "name"), ("made", "'x"), ("fails", "made"), ("made", "'kind")]
        for text, reads, end in ENTRIES:
            self.refused(*[(text, reads, other) for other in ends if other != end])

    def test_an_end_with_wants(self):
        """Also where the line of that end would be right."""
        self.assertIs(is_right(read_recipe("want put 'b say got 0"), things.line_by("a : wants b")), True)
        self.refused(things.entry("want put 'b say got 0", ": wants b"), things.entry(TWO, "b 'c : wants c"),
                     things.entry("say put 1", ": wants b"), things.entry("want put 'b say got 0", "b 1 : wants b"))
        for text, reads, end in ENTRIES:
            self.refused(*[(text, reads[:k], ("wants", read[0])) for k, read in enumerate(reads)])

    def test_ends_that_are_none(self):
        for end in (
            (), ("made",), ("made", "1", "1"), ("made", 1), ("made", None), ("made", "01"), ("made", ""), ("made", "x"),
            ("made", " 1"), ("made", ("1",)), ("fails",), ("fails", ""), ("fails", "Kind"), ("fails", 1), ("lacks",),
            ("lacks", "b"), ("strays", 0), ("peeks", "b"), ("value", 1), ("value", "1"), (1, "1"), (None, "1"),
            ("Made", "1"), "made 1", "made", None, 1, ["made", "1"], {"made": "1"}, (("made", "1"),), (["made"], "1"),
        ):
            self.refused(("say put 1", (), end), ("want put 'b say got 0", (("b", "1"),), end),
                         ("fail lacks", (), end))

    def test_lists_in_the_place_of_tuples(self):
        for text, reads, end in (ENTRIES[0], ENTRIES[7], ENTRIES[12], ENTRIES[15]):
            self.refused([text, reads, end], (text, list(reads), end), (text, reads, list(end)))
            self.refused([text, list(reads), list(end)], [[text], reads, end])
            for k, read in enumerate(reads):
                self.refused((text, reads[:k] + (list(read),) + reads[k + 1:], end))

    def test_too_few_or_many_parts(self):
        for text, reads, end in (ENTRIES[0], ENTRIES[2], ENTRIES[7], ENTRIES[12]):
            self.refused((), (text,), (text, reads), (reads, end), (text, end), (text, reads, end, ()),
                         (text, reads, end, end), ((text, reads, end),), (text, reads) + end,
                         ("a", text, reads, end), ("a", reads, end), (text, ("a", reads, end)))
        text, reads, end = ENTRIES[7]
        self.refused((text, reads[0], end), (text, (reads,), end), (text, (reads[0] + ("1",),), end),
                     (text, (("b",),), end), (text, ((),), end), (text, ("b", "1"), end), (text, ("b1",), end))

    def test_parts_that_stand_for_one_another(self):
        text, reads, end = ENTRIES[7]
        self.refused((text, end, reads), (end, reads, text), (reads, text, end))

    def test_names_and_stamps_that_are_none(self):
        text = "want put 'b say put 5"
        self.assertIsNone(Shelf().put((text, (("b", "1"),), ("made", "5"))))
        for name in ("", "B", "b1", "b ", " b", "abcdefghi", "'b", "-", 1, None, True, ("b",), ["b"], {}):
            self.refused((text, ((name, "1"),), ("made", "5")))
        for stamp in (
            "", "01", "-0", "+1", " 1", "1 ", "x", "'B", "'" + "x" * 21, "(1", "1)", "(1,)", "((((()))))",
            "1000000000000000001", stamp_of(things.FORTY + (1,)), "(" * 1000, 1, None, True, ("1",), ["1"], (), {},
        ):
            self.refused((text, (("b", stamp),), ("made", "5")))
        for value in (10 ** 18, -10 ** 18, "", "x" * 20, (), things.nested((), 3), things.FORTY):
            self.assertIsNone(Shelf().put((text, (("b", stamp_of(value)),), ("made", "5"))))

    def test_reads_that_are_none(self):
        for reads in ([], {}, None, "", 0, True, "b", {"b": "1"}, [("b", "1")], (None,), (1,), ("b",), ({},)):
            self.refused(("say put 1", reads, ("made", "1")), ("want put 'b say put 1", reads, ("made", "1")))

    def test_thirteen_reads(self):
        self.refused((TWELVE, (("b", "1"),) * 13, ("made", "1")), ("say put 1", (("b", "1"),) * 13, ("made", "1")))

    def test_any_plain_thing(self):
        self.refused(
            None, True, False, 0, 1, -7, 10 ** 39, "", "say put 1", "made 1 0 say put 1", "x", [], {}, (), [[]], [None],
            (None,), (None, None, None), (1, 2, 3), (True, True, True), ("", "", ""), ("", (), ()), ((), (), ()),
            ([], [], []), ({}, {}, {}), {"say put 1": ()}, {0: "say put 1", 1: (), 2: ("made", "1")},
            (1, (), ("made", "1")), (None, (), ("made", "1")), (("say", ("put", 1)), (), ("made", "1")),
            (["say put 1"], (), ("made", "1")), ({}, (), ("made", "1")), (True, (), ("made", "1")),
            list(ENTRIES), tuple(ENTRIES[:3]), things.nested("say put 1", 60), [ENTRIES[0]], {"a": ENTRIES[0]},
        )

    def test_odd_things(self):
        for thing in things.odd_things():
            for put in (thing, (thing,) * 3, ("say put 1", (), thing), ("say put 1", thing, ("made", "1")),
                        (thing, (), ("made", "1")), ("say put 1", (thing,), ("made", "1"))):
                shelf = Shelf()
                with self.assertRaises(Dishonest):
                    shelf.put(put)
                self.assertEqual(shelf.entries(), [])

    def test_an_error_of_any_thing_can_be_shown(self):
        for thing in (things.Touchy(), (things.Touchy(),) * 3, things.shared("a", 40)):
            with self.assertRaises(Dishonest) as caught:
                Shelf().put(thing)
            self.assertTrue(str(caught.exception))


class Found(Puts):
    def test_each_beginning_of_the_reads(self):
        shelf = filled(ENTRIES)
        for text, reads, end in ENTRIES:
            for k, read in enumerate(reads):
                told = shelf.found(text, reads[:k])
                self.assertEqual(told, read[0])
                self.assertIs(type(told), str)
            told = shelf.found(text, reads)
            self.assertEqual(told, end)
            self.assertIs(type(told), tuple)

    def test_words(self):
        shelf = filled([things.entry(TWO, "b 'c c 5 : made ('c,5)")])
        self.assertEqual(shelf.found(TWO, ()), "b")
        self.assertEqual(shelf.found(TWO, (("b", "'c"),)), "c")
        self.assertEqual(shelf.found(TWO, (("b", "'c"), ("c", "5"))), ("made", "('c,5)"))
        for reads in (
            (("b", "'d"),), (("c", "'c"),), (("b", "c"),), (("b", "5"),), (("b", "'c"), ("c", "6")),
            (("b", "'c"), ("d", "5")), (("b", "'d"), ("c", "5")), (("b", "'c"), ("c", "5"), ("d", "1")),
            (("c", "5"), ("b", "'c")), (("c", "5"),), (("b", "'c"), ("c", "5"), ("c", "5")),
        ):
            self.assertIsNone(shelf.found(TWO, reads), reads)

    def test_another_stamp_or_name_at_the_last_read(self):
        for text, reads, end in ENTRIES:
            shelf = filled([(text, reads, end)])
            for k in range(1, len(reads) + 1):
                name, stamp = reads[k - 1]
                for last in ((name, "77"), (name, "'zz"), ("zz", stamp), ("c" if name == "b" else "b", stamp)):
                    self.assertIsNone(shelf.found(text, reads[:k - 1] + (last,)))

    def test_more_reads_than_any_entry(self):
        shelf = filled(ENTRIES)
        for text, reads, end in ENTRIES:
            self.assertIsNone(shelf.found(text, reads + (("b", "1"),)))
            self.assertIsNone(shelf.found(text, reads + (("b", "1"),) * 13))

    def test_another_recipe_s_text(self):
        """Of the same reads; by texts that begin alike, too."""
        one, other = "want put 'b say got 0", "want put 'b say put 1"
        shelf = filled([things.entry(one, "b 1 : made 1")])
        for text in (other, one + " ", "want put 'b say got", "want put 'b", "", one + " say put 1", "say put 1", "zz"):
            self.assertIsNone(shelf.found(text, ()))
            self.assertIsNone(shelf.found(text, (("b", "1"),)))
        shelf.put(things.entry(other, "b 2 : made 1"))
        self.assertEqual(shelf.found(one, (("b", "1"),)), ("made", "1"))
        self.assertEqual(shelf.found(other, (("b", "2"),)), ("made", "1"))
        self.assertIsNone(shelf.found(one, (("b", "2"),)))
        self.assertIsNone(shelf.found(other, (("b", "1"),)))

    def test_a_recipe_with_a_peek(self):
        self.assertIsNone(filled(ENTRIES).found("peek put 'b say put 1", ()))

    def test_asked_again_when_more_was_put(self):
        shelf = Shelf()
        self.assertIsNone(shelf.found(TWO, ()))
        shelf.put(things.entry(TWO, "b 'c c 5 : made ('c,5)"))
        self.assertEqual(shelf.found(TWO, ()), "b")
        self.assertIsNone(shelf.found(TWO, (("b", "'d"),)))
        self.assertIsNone(shelf.found(TWO, (("b", "5"),)))
        shelf.put(things.entry(TWO, "b 'd d 1 : made ('d,1)"))
        shelf.put(things.entry(TWO, "b 5 : fails name"))
        self.assertEqual(shelf.found(TWO, ()), "b")
        self.assertEqual(shelf.found(TWO, (("b", "'d"),)), "d")
        self.assertEqual(shelf.found(TWO, (("b", "'c"),)), "c")
        self.assertEqual(shelf.found(TWO, (("b", "5"),)), ("fails", "name"))
        self.assertIsNone(shelf.found(TWO, (("b", "'c"), ("c", "6"))))
        shelf.put(things.entry(TWO, "b 'c c 6 : made ('c,6)"))
        self.assertEqual(shelf.found(TWO, (("b", "'c"), ("c", "6"))), ("made", "('c,6)"))
        self.assertEqual(shelf.found(TWO, (("b", "'c"), ("c", "5"))), ("made", "('c,5)"))

    def test_asking_changes_nothing(self):
        shelf = filled(ENTRIES)
        for text, reads, end in ENTRIES:
            shelf.found(text + " ", reads)
            shelf.found(text, reads + reads)
            shelf.found("zz", ())
        self.assertEqual(shelf.entries(), list(ENTRIES))


class Drawn(Puts):
    """Many shelves of entries of drawn recipes."""

    def test_against_a_plain_reading(self):
        source = things.source(75)
        seen = {"end": 0, "name": 0, "none": 0}
        for _ in range(250):
            book = things.book(source, things.HONEST)
            shelf, put = Shelf(), []
            for entry in things.entries(source, book) + things.entries(source, book):
                self.assertIs(plain.is_entry(*entry), True)
                shelf.put(entry)
                put += [entry] if entry not in put else []
                text, reads, _ = source.choice(put)
                asked = reads[:source.randint(0, len(reads))]
                if source.random() < 0.3:
                    asked = asked[:-1] + things.reads(source)[:1]
                told = shelf.found(text, asked)
                self.assertEqual(told, plain.found(put, text, asked))
                seen["none" if told is None else "name" if isinstance(told, str) else "end"] += 1
            self.assertEqual(shelf.entries(), put)
        self.assertGreater(min(seen.values()), 100, seen)

    def test_never_two_unlike_answers(self):
        """What a shelf tells is what the recipe does next by those reads, whatever else it has."""
        source = things.source(76)
        for _ in range(100):
            shelf = filled(things.entries(source, things.book(source, things.HONEST)))
            for text, reads, _ in shelf.entries():
                for k in range(len(reads) + 1):
                    told = shelf.found(text, reads[:k])
                    line = ("x", reads[:k], told if isinstance(told, tuple) else ("wants", told))
                    self.assertIs(is_right(read_recipe(text), line), True)

    def test_bent_entries(self):
        source = things.source(77)
        seen = {True: 0, False: 0}
        for _ in range(150):
            for text, reads, end in things.entries(source, things.book(source, things.HONEST)):
                bent = (source.choice([text, text, text, "say put 1"]),
                        source.choice([reads, reads[1:], reads[:-1], things.reads(source)]),
                        source.choice([end, end, ("made", "1"), ("fails", "kind"), ("wants", "b")]))
                shelf = Shelf()
                try:
                    shelf.put(bent)
                except Dishonest:
                    pass
                self.assertEqual(shelf.entries() == [bent], plain.is_entry(*bent))
                self.assertIn(shelf.entries(), ([], [bent]))
                seen[shelf.entries() == [bent]] += 1
        self.assertGreater(min(seen.values()), 100, seen)


if __name__ == "__main__":
    unittest.main()
