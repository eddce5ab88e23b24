"""Points 50 to 53: what held is, ends now, which held lines stand, and papers in held."""

import copy
import itertools
import unittest

import plain
import things
from redo.books import names_of
from redo.booktexts import read_book
from redo.checker import lets_by
from redo.held import end_now, is_held, paper_in, stands
from redo.making import line_of
from redo.recipetexts import show_recipe
from redo.stamps import stamp_of

SAY = "say put 1"
WANT = "want put 'b say got 0"
PEEK = "peek put 'b say got 0"
MADE = ("a", (), ("made", "1"))


def held_of(*kept):
    """Held of these texts and lines."""
    return {line[0]: (text, line) for text, line in kept}


class Like:
    """A thing that calls itself the same as any."""

    def __eq__(self, other):
        return True

    def __ne__(self, other):
        return False

    def __hash__(self):
        return 7


class Told(unittest.TestCase):
    def yes(self, *given):
        self.told(given, True)

    def no(self, *given):
        self.told(given, False)

    def told(self, given, wanted):
        for at, thing in enumerate(given):
            with self.subTest(at=at):
                self.assertIs(is_held(thing), wanted)

    def test_held(self):
        self.yes({}, {"a": (SAY, MADE)}, {"a": (WANT, ("a", (("b", "7"),), ("made", "7")))})
        self.yes({"a": (WANT, ("a", (), ("wants", "b"))), "b": ("fail sour", ("b", (), ("fails", "sour")))})
        self.yes({"abcdefgh": ("want put 'a " * 12 + "say got 0", ("abcdefgh", (("a", "1"),) * 12, ("made", "1")))})

    def test_a_line_of_that_name(self):
        self.no({"b": (SAY, MADE)}, {"a": (SAY, MADE), "b": (SAY, MADE)}, {"aa": (SAY, MADE)})

    def test_right_where_the_recipe_is_honest(self):
        for line in (
            ("a", (), ("made", "2")), ("a", (), ("fails", "x")), ("a", (("b", "1"),), ("made", "1")), ("a", (),
                                                                                                       ("wants", "b")),
        ):
            self.no({"a": (SAY, line)}, {"a": (SAY, line), "b": (SAY, ("b", (), ("made", "1")))})
        self.no({"a": (WANT, MADE)}, {"a": (WANT, ("a", (("b", "7"),), ("made", "6")))},
                {"a": (WANT, ("a", (), ("wants", "c")))})
        self.no({"a": (WANT, ("a", (("c", "7"),), ("made", "7")))})

    def test_any_line_where_it_is_not(self):
        for line in (
            MADE, ("a", (), ("wants", "a")), ("a", (("a", "1"),), ("fails", "x")), ("a", (("b", "1"),) * 12,
                                                                                    ("made", "()")),
        ):
            self.yes({"a": (PEEK, line)}, {"a": ("when put 1 say put 5 " + PEEK, line)})
        self.no({"b": (PEEK, MADE)}, {"a": (PEEK, ("a", (), ("made", "01")))}, {"a": (PEEK, ("a", (), ("lacks",)))})
        self.no({"a": (PEEK, ("a", (("b", "1"),) * 13, ("made", "1")))}, {"a": (PEEK, None)},
                {"a": (PEEK, ["a", (), ("made", "1")])})

    def test_texts_that_write_no_recipe(self):
        for text in (
            "", " ", "say", "say put", "say put 01", "say put 1 ", " say put 1", "say  put 1", "say put 1 1",
            "Say put 1", "say got 0",
            "say put 1\n", "made a say put 1", "want put 'b say got 1", "peek put 'b", "say row 1", "say row 01 put 1",
            "say " + "many " * 60 + "put 1", "want put 'b " * 13 + SAY, "x" * 60000, " " * 60000,
            "say put " + "(" * 60000,
        ):
            self.no({"a": (text, MADE)}, {"a": (text, ("a", (), ("wants", "b")))})

    def test_keys_that_are_no_names(self):
        for key in ("", "A", "a1", "abcdefghi", "a b", 0, 1, None, True, ("a",), (), -7, 1.5, frozenset(), object()):
            self.no({key: (SAY, MADE)}, {key: (PEEK, MADE)}, {"a": (SAY, MADE), key: (SAY, MADE)}, {key: None})
            self.no({key: (PEEK, (key, (), ("made", "1")))})

    def test_a_key_that_says_it_is_like_all(self):
        self.no({Like(): (SAY, MADE)}, {"b": (SAY, ("b", (), ("made", "1"))), Like(): (PEEK, MADE)})

    def test_no_tuple_of_two(self):
        self.no({"a": ()}, {"a": (SAY,)}, {"a": (SAY, MADE, MADE)}, {"a": [SAY, MADE]}, {"a": MADE},
                {"a": (MADE, SAY)}, {"a": SAY})
        self.no({"a": "ab"}, {"a": {0: SAY, 1: MADE}}, {"a": (SAY, SAY)}, {"a": (MADE, MADE)},
                {"a": (("say", ("put", 1)), MADE)})

    def test_other_kinds(self):
        self.no((SAY, MADE), MADE, [MADE], [("a", (SAY, MADE))], {"a"}, SAY)
        for thing in things.odd_things() + [0, 1, (), (SAY,), [SAY, MADE]]:
            self.no({"a": thing}, {"a": (SAY, thing)}, {"a": (thing, MADE)}, {"a": (PEEK, (thing,))},
                    {"a": (PEEK, thing)})
            self.no({"a": (PEEK, (thing, (), ("made", "1")))}, {"b": (SAY, MADE), "a": thing},
                    {"a": (PEEK, ("a", (), thing))})
            self.no([thing], (thing,), {"a": (thing, thing)})
            if not isinstance(thing, dict) or len(thing) > 0:
                self.no(thing)

    def test_sixty_and_more(self):
        names = [one + other for one in "abc" for other in "abcdefghijklmnopqrstuvwxyz"]
        for many in (59, 60, 61, 78):
            self.yes({name: (SAY, (name, (), ("made", "1"))) for name in names[:many]})
        great = {name: (SAY, (name, (), ("made", "1"))) for name in names[:60]}
        for at in (0, 30, 59):
            self.no(dict(great, **{names[at]: (SAY, (names[at], (), ("made", "2")))}))

    def test_nothing_is_changed(self):
        for thing in ({"a": (SAY, MADE)}, {"a": [SAY, [MADE]]}, {"a": (PEEK, MADE), "b": {}}, [{"a": [1]}], {1: [2]}):
            kept = copy.deepcopy(thing)
            is_held(thing)
            self.assertEqual(repr(thing), repr(kept))


class Now(unittest.TestCase):
    def ends(self, rows, wanted):
        for book in (read_book(rows), read_book(rows[::-1])):
            kept = copy.deepcopy(book)
            for name, end in wanted.items():
                with self.subTest(rows=rows, name=name):
                    self.assertEqual(repr(end_now(book, name)), repr(end))
            self.assertEqual(repr(book), repr(kept))

    def test_told(self):
        self.ends(["told a 7", "told b '", "told c (1,'x)"],
                  {"a": ("made", "7"), "b": ("made", "'"), "c": ("made", "(1,'x)")})

    def test_made(self):
        rows = ["told t 7", "made a want put 't say row 1 got 0", "made b fail x", "made c want put 'b say put 1",
                "made d want put 'zz say put 1", "made e want put 'e say put 1", "made f peek put 't say got 0",
                "made g peek put 'b say put 1"]
        self.ends(rows, {
            "a": ("made", "(7)"), "b": ("fails", "x"), "c": ("wants", "b"), "d": ("wants", "zz"), "e": ("wants", "e"),
            "f": ("made", "7"), "g": ("wants", "b"),
        })

    def test_lacks(self):
        self.ends(["told t 7", "made a want put 'z say put 1"], {
            "z": ("lacks",), "tt": ("lacks",), "": ("lacks",), "A": ("lacks",), "no name at all": ("lacks",),
            "lacks": ("lacks",),
        })
        self.ends([], {"a": ("lacks",)})

    def test_any_book(self):
        source = things.source(51)
        for _ in range(300):
            book = things.book(source)
            for name in names_of(book) + ["k"]:
                self.assertEqual(repr(end_now(book, name)), repr(plain_end(book, name)))


def plain_end(book, name):
    if name in book[0]:
        return ("made", stamp_of(book[0][name]))
    return plain.line(book, name)[2] if name in book[1] else ("lacks",)


class Stands(unittest.TestCase):
    def setUp(self):
        # Told t and u; b and c by them; f fails; w wants f; z lacks; v wants itself.
        self.rows = {
            "t": "told t 1", "u": "told u 2", "b": "made b want put 't say sum got 0 put 1",
            "c": "made c want put 'b want put 'u want put 'b say sum got 0 got 1", "f": "made f want put 't fail x",
            "w": "made w want put 'u want put 'f say put 1", "y": "made y want put 'zz say put 1",
            "v": "made v want put 'v say put 1", "k": "made k say put 5",
        }
        book = read_book(list(self.rows.values()))
        self.held = {name: (show_recipe(book[1][name]), line_of(book, name)) for name in book[1]}
        self.assertIs(is_held(self.held), True)

    def stand(self, wanted, **changed):
        """Just these held lines stand by the book so changed; a name given as None is struck."""
        rows = dict(self.rows, **changed)
        book = read_book([row for row in rows.values() if row is not None])
        kept = copy.deepcopy((book, self.held))
        for name in list(self.rows) + ["zz", "", "no name at all"]:
            with self.subTest(changed=changed, name=name):
                self.assertIs(stands(book, self.held, name), name in wanted.split())
        self.assertEqual(repr((book, self.held)), repr(kept))

    def test_as_it_was(self):
        self.stand("b c f w y v k")

    def test_not_held(self):
        self.held.pop("b")
        self.stand("c f w y v k")
        self.held.clear()
        self.stand("")

    def test_not_made(self):
        self.stand("b c f w y v", k="told k 5")
        self.stand("b c f w y v", k=None)
        self.stand("b c f w y k", v=None)
        self.stand("f w y v k", b=None)
        self.stand("c f w y v k", b="told b 2")

    def test_by_another_recipe(self):
        self.stand("b c f w y v", k="made k when put 1 say put 5 say put 5")
        self.stand("c f w y v k", b="made b want put 't say sum put 1 got 0")
        self.stand("b c w y v k", f="made f want put 't fail y")

    def test_a_read_that_is_otherwise(self):
        self.stand("y v k w", t="told t 3")
        self.stand("b y v k f", u="told u 3")
        self.stand("c y v k w", t="told t '", b="made b say put 2")
        self.stand("b f y v k", u="made u say put 3")
        self.stand("b f c w y v k", u="made u say put 2")
        self.stand("b f y v k", u="made u fail x")
        self.stand("b f y v k", u="made u want put 'zz say put 2")
        self.stand("b f y v k", u="made u want put 'u say put 2")
        self.stand("b f y v k", u=None)
        self.stand("y v k w", t=None)

    def test_a_read_of_what_is_made_otherwise_now_though_its_line_stands_not(self):
        """c read b with 2: that is what b comes to by another recipe, too."""
        self.stand("c f w y v k", b="made b say put 2")
        self.stand("f w y v k", b="made b say put 3")
        self.stand("f w y v k", b="made b fail x")

    def test_what_is_wanted_at_the_end(self):
        self.stand("b c f w v k", zz="told zz 1")
        self.stand("b c f w v k", zz="made zz say put 0")
        self.stand("b c f w y v k", zz="made zz fail x")
        self.stand("b c f w y v k", zz="made zz want put 'y say put 1")
        self.stand("b c y v k", f="told f 0")
        self.stand("b c y v k", f="made f say put 1")
        self.stand("b c w y v k", f=None)
        self.stand("b c w y v k", f="made f fail y")

    def test_a_line_that_wants_itself(self):
        self.stand("b c f w y v k")
        self.stand("b c f w y k", v="made v say put 1")

    def test_a_failing_s_word_is_no_wanted_name(self):
        for word in ("t", "b", "a", "zz"):
            book = read_book(["told t 1", "made b say put 1", "made a fail " + word])
            self.assertIs(stands(book, held_of(("fail " + word, ("a", (), ("fails", word)))), "a"), True)

    def test_each_of_many_reads(self):
        rows = [f"told {name} {at}" for at, name in enumerate("bcdefghijklm")]
        text = "want put '" + " want put '".join("bcdefghijklm") + " say got 11"
        book = read_book(rows + ["made a " + text])
        held = {"a": (text, line_of(book, "a"))}
        self.assertIs(stands(book, held, "a"), True)
        for name in "bcdefghijklm":
            other = copy.deepcopy(book)
            other[0][name] = 77
            self.assertIs(stands(other, held, "a"), False)
            other[0].pop(name)
            self.assertIs(stands(other, held, "a"), False)

    def test_a_line_of_a_recipe_that_peeks_stands_by_its_reads(self):
        book = read_book(["told b 3", "told c 4", "made a want put 'c peek put 'b say got 1"])
        text = show_recipe(book[1]["a"])
        for end in (("made", "3"), ("made", "9"), ("fails", "x"), ("wants", "zz")):
            self.assertIs(stands(book, held_of((text, ("a", (("c", "4"),), end))), "a"), True)
            self.assertIs(stands(book, held_of((text, ("a", (("c", "5"),), end))), "a"), False)
        self.assertIs(stands(book, held_of((text, ("a", (("c", "4"),), ("wants", "b")))), "a"), False)
        self.assertIs(stands(book, held_of((text, ("a", (), ("made", "9")))), "a"), True)

    def test_any(self):
        """As told in another way; and of an honest recipe a line that stands is its line by good values."""
        source = things.source(52)
        seen = {True: 0, False: 0}
        for _ in range(900):
            one = things.book(source)
            held = things.held(source, one)
            self.assertIs(is_held(held), True)
            book = things.changed(source, one)
            for name in things.NAMES:
                wanted = plain_stands(book, held, name)
                self.assertIs(stands(book, held, name), wanted)
                seen[wanted] += name in held
                if wanted and "peek" not in held[name][0]:
                    self.assertEqual(held[name][1], line_of(book, name))
        self.assertGreater(min(seen.values()), 300, seen)


def plain_stands(book, held, name):
    if name not in held or name not in book[1]:
        return False
    text, (_, reads, end) = held[name]
    as_read = all(plain_end(book, read) == ("made", stamp) for read, stamp in reads)
    as_wanted = end[0] != "wants" or plain_end(book, end[1])[0] != "made"
    return text == show_recipe(book[1][name]) and as_read and as_wanted


class Papers(unittest.TestCase):
    def any_line(self, name, reads="", wants=None):
        """A held line of a recipe that peeks: with any reads, and any end."""
        end = ("made", "1") if wants is None else ("wants", wants)
        return (PEEK, (name, tuple([(read, "1") for read in reads]), end))

    def paper(self, held, names, wanted):
        """The lines of just these names, each once, each behind those that it reads; None where wanted is None."""
        with self.subTest(held=held, names=names):
            self.assertIs(is_held(held), True)
            kept = copy.deepcopy((held, names))
            told = paper_in(held, names)
            self.assertEqual(repr((held, names)), repr(kept))
            if wanted is None:
                self.assertIsNone(told)
                return
            self.assertIs(type(told), list)
            self.assertEqual(sorted(line[0] for line in told), sorted(wanted))
            for at, line in enumerate(told):
                self.assertEqual(line, held[line[0]][1])
                for name, _ in line[1]:
                    self.assertTrue(name not in held or name in [ahead[0] for ahead in told[:at]])

    def held(self, *lines):
        return held_of(*[self.any_line(*line) for line in lines])

    def test_nothing(self):
        self.paper({}, [], "")
        self.paper({}, ["a", "b"], "")
        self.paper(self.held(("a", "")), [], "")
        self.paper(self.held(("a", "")), ["b", "", "no name at all"], "")

    def test_each_reached_name_that_has_a_line(self):
        held = self.held(("a", "b"), ("b", "cd"), ("d", ""), ("e", "a"), ("f", ""))
        self.paper(held, ["a"], "abd")
        self.paper(held, ["b"], "bd")
        self.paper(held, ["d"], "d")
        self.paper(held, ["c"], "")
        self.paper(held, ["e"], "abde")
        self.paper(held, ["f", "b"], "bdf")
        self.paper(held, ["a", "b", "c", "d", "e", "f", "g"], "abdef")

    def test_once_each(self):
        held = self.held(("a", "bbb"), ("b", "cc"), ("c", ""), ("d", "abc"))
        self.paper(held, ["a", "a", "b"], "abc")
        self.paper(held, ["d"] * 40, "abcd")

    def test_wanted_at_the_end_is_reached_but_not_read(self):
        held = self.held(("a", "b", "c"), ("b", ""), ("c", "", "d"), ("d", "", "c"), ("e", "", "e"), ("f", "", "zz"))
        self.paper(held, ["a"], "abcd")
        self.paper(held, ["c"], "cd")
        self.paper(held, ["e"], "e")
        self.paper(held, ["f"], "f")
        self.paper(self.held(("a", "b"), ("b", "", "a")), ["a"], "ab")
        self.paper(self.held(("a", "b"), ("b", "", "a")), ["b"], "ab")

    def test_a_failing_s_word_is_not_reached(self):
        held = dict(self.held(("b", ""), ("c", "c")), a=("fail b", ("a", (), ("fails", "b"))))
        self.paper(held, ["a"], "a")
        held["a"] = ("fail c", ("a", (), ("fails", "c")))
        self.paper(held, ["a"], "a")

    def test_whatever_the_names_order(self):
        """Those read may stand behind or ahead of the reader by name."""
        for names in itertools.permutations("abcd"):
            chain = [(one, other) for one, other in zip(names, names[1:])] + [(names[3], "")]
            for rows in (chain, chain[::-1]):
                self.paper(self.held(*rows), [names[0]], "abcd")
                self.paper(self.held(*rows), list("abcd"), "abcd")

    def test_reads_that_go_round(self):
        self.paper(self.held(("a", "a")), ["a"], None)
        self.paper(self.held(("a", "b"), ("b", "a")), ["a"], None)
        self.paper(self.held(("a", "b"), ("b", "c"), ("c", "a"), ("d", "")), ["d", "b"], None)
        self.paper(self.held(("a", "b"), ("b", "c"), ("c", "b")), ["a"], None)
        self.paper(self.held(("a", "", "b"), ("b", "c"), ("c", "b")), ["a"], None)

    def test_reads_that_go_round_elsewhere(self):
        held = self.held(("a", "b"), ("b", "a"), ("c", "d"), ("d", ""), ("e", "ca"))
        self.paper(held, ["c"], "cd")
        self.paper(held, ["d", "x"], "d")
        self.paper(held, ["e"], None)

    def test_what_has_no_line_breaks_the_ring(self):
        self.paper(self.held(("a", "b"), ("c", "a")), ["c"], "ac")

    def test_sixty(self):
        names = [one + other for one in "abc" for other in "abcdefghijklmnopqrstuvwxyz"][:60]
        for order in (names, names[::-1]):
            held = {one: (PEEK, (one, ((other, "1"),), ("made", "1"))) for one, other in zip(order, order[1:])}
            self.paper(held, [order[0]], order[:-1])
            self.paper(held, [order[30]], order[30:-1])
            held[order[-1]] = (PEEK, (order[-1], (), ("wants", order[0])))
            self.paper(held, [order[30]], names)
            held[order[-1]] = (PEEK, (order[-1], ((order[0], "1"),), ("made", "1")))
            self.paper(held, [order[30]], None)

    def test_where_all_stands_it_is_let_by(self):
        source = things.source(53)
        for _ in range(300):
            book = things.book(source, things.HONEST)
            held = {name: (show_recipe(book[1][name]), line_of(book, name)) for name in book[1]}
            names = source.sample(things.NAMES, source.randint(0, 4))
            told = paper_in(held, names)
            self.assertIs(lets_by(book, told), True)
            self.assertTrue(set(names) & set(book[1]) <= {line[0] for line in told})

    def test_any(self):
        source = things.source(54)
        seen = {True: 0, False: 0}
        for _ in range(800):
            lines = []
            for name in source.sample("abcdefgh", source.randint(0, 8)):
                reads = "".join(source.choice("abcdefghz") for _ in range(source.choice([0, 0, 1, 1, 2, 3])))
                lines.append((name, reads, source.choice([None, None, "a", "d", "z"])))
            held = self.held(*lines)
            names = source.sample("abcdefghz", source.randint(0, 3))
            reached = plain_reached(held, set(names))
            wanted = None if plain_round(held, reached) else [name for name in reached if name in held]
            seen[wanted is None] += 1
            self.paper(held, names, wanted)
        self.assertGreater(min(seen.values()), 100, seen)

    def test_what_is_told_is_the_asker_s_own(self):
        held = self.held(("a", "b"), ("b", ""))
        told = paper_in(held, ["a"])
        told.clear()
        self.assertEqual(len(paper_in(held, ["a"])), 2)
        later = paper_in(held, ["a"])
        held.clear()
        self.assertEqual(len(later), 2)


def plain_reached(held, names):
    """All that are read or wanted by those so far, as often as there are names."""
    for _ in range(20):
        for name in sorted(names):
            if name in held:
                _, reads, end = held[name][1]
                names = names | {read for read, _ in reads} | ({end[1]} if end[0] == "wants" else set())
    return names


def plain_round(held, names, row=()):
    """Whether reads among these go round: by all ways of reading."""
    for name in names:
        if name in row or name in held and plain_round(held, [read for read, _ in held[name][1][1]], row + (name,)):
            return True
    return False


if __name__ == "__main__":
    unittest.main()
