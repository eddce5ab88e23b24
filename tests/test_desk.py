"""Point 102: the rows of a desk and its answers."""

import itertools
import unittest

import plainhouse
import things
from redo.booktexts import shown_book
from redo.desk import Desk
from redo.errors import BadPaper, NoPaper, NoRow, NoThing, RedoError, TooMany
from redo.house import House
from redo.reasons import reason_for
from redo.recipetexts import show_recipe
from redo.reports import log_text, paper_texts, reason_text, result_text
from redo.stamps import stamp_of

ASKED = ("book", "log", "untold")


class Desks(unittest.TestCase):
    def told(self, desk, *rows):
        """Each row is "row => answer"."""
        for row in rows:
            said, _, answer = row.partition(" => ")
            with self.subTest(row=said):
                told = desk.say(said)
                self.assertIs(type(told), str)
                self.assertEqual(told, answer)
        return desk

    def desk(self, *rows):
        """A desk that was told these rows."""
        desk = Desk()
        for row in rows:
            desk.say(row)
        return desk

    def state(self, desk):
        return [desk.say(row) for row in ASKED]

    def refused(self, desk, error, row):
        state = self.state(desk)
        with self.assertRaises(RedoError) as caught:
            desk.say(row)
        self.assertIs(type(caught.exception), error, row)
        self.assertEqual(self.state(desk), state)
        return caught.exception


BREAD = ("tell flour 2", "make dough want put 'flour say sum got 0 put 1", "make bread want put 'dough say row 1 got 0")


class Answers(Desks):
    def test_at_first(self):
        self.told(Desk(), "book => -", "log => -", "untold => -", "audit => -", "check - => lets by", "take - => ok",
                  "paper a => -", "ask a => lacks by a", "weave - a => lacks by a", "sweep a => ok", "book => -",
                  "log => -")

    def test_tell_make_strike_and_book(self):
        self.told(Desk(), "tell flour 2 => ok", "book => told flour 2", "tell flour (1,'x) => ok",
                  "book => told flour (1,'x)", "make bread fail burnt => ok",
                  "book => made bread fail burnt; told flour (1,'x)", "make flour say put 1 => ok",
                  "book => made bread fail burnt; made flour say put 1", "tell bread ' => ok",
                  "book => told bread '; made flour say put 1", "strike flour => ok", "book => told bread '",
                  "strike bread => ok", "book => -",
                  "make a peek put 'b when got 0 say row 2 got 0 put (1,2) fail x => ok",
                  "book => made a peek put 'b when got 0 say row 2 got 0 put (1,2) fail x")

    def test_tell_each_kind(self):
        self.told(Desk(), "tell a -5 => ok", "tell b '-5 => ok", "tell c () => ok", "tell d ((),'x,1) => ok",
                  "tell tell 'tell => ok", "tell e 1000000000000000000 => ok",
                  "book => told a -5; told b '-5; told c (); told d ((),'x,1); told e 1000000000000000000; "
                  "told tell 'tell")

    def test_ask(self):
        desk = self.desk(*BREAD)
        self.told(desk, "ask bread => made (3)", "log => done dough; done bread",
                  "ask flour bread zz bread => made 2; made (3); lacks by zz; made (3)",
                  "log => done dough; done bread; kept dough; kept bread", "tell flour 7 => ok", "ask dough => made 8",
                  "log => done dough; done bread; kept dough; kept bread; done dough", "tell flour 2 => ok",
                  "ask bread => made (3)",
                  "log => done dough; done bread; kept dough; kept bread; done dough; fetched dough; kept bread")

    def test_each_result(self):
        desk = self.desk("make bad fail burnt", "make worse want put 'bad say put 1", "make a want put 'b say put 1",
                         "make b want put 'a say put 1", "make lack want put 'zz say put 1", "tell t 'x")
        row = "bad worse a b lack t zz"
        answer = ("fails burnt by bad; fails burnt by worse bad; ring by a b a; ring by b a b; lacks by lack zz; "
                  "made 'x; lacks by zz")
        self.told(desk, f"weave 3,1,4 {row} => {answer}", f"ask {row} => {answer}", f"weave - {row} => {answer}")

    def test_weave(self):
        rows = ("tell t 1", "make a want put 'c say got 0", "make b want put 't fail x", "make c want put 't say got 0")
        for turns, log in (("-", "done b; done c; done a"), ("0,1,1,0", "done c; done a; done b"),
                           ("0,3,5,1,1", "done c; done b; done a"), ("1", "done b; done c; done a"),
                           ("9999,0,9999", "done b; done c; done a"), ("0,9999,1111", "done c; done a; done b")):
            self.told(self.desk(*rows), f"weave {turns} a b => made 1; fails x by b", f"log => {log}")
        many = ",".join(["7"] * 1500)
        self.told(self.desk(*rows), f"weave {many} a b a => made 1; fails x by b; made 1")

    def test_why(self):
        desk = self.desk(*BREAD, "make cake want put 'dough want put 'sugar say put 1")
        self.told(desk, "why bread => none", "ask bread cake => made (3); lacks by cake sugar", "why bread => -",
                  "why cake => -", "tell flour 3 => ok", "why dough => read 0 flour 2 made 3",
                  "why bread => read 0 dough 3 made 4", "strike flour => ok", "why dough => read 0 flour 2 lacks",
                  "why bread => read 0 dough 3 wants flour", "make flour fail empty => ok",
                  "why dough => read 0 flour 2 fails empty", "tell flour 2 => ok", "tell sugar 'x => ok",
                  "why cake => wanted sugar 'x", "make bread fail burnt => ok", "why bread => recipe",
                  "log => done dough; done bread; done cake")

    def test_audit_and_untold(self):
        desk = self.desk("tell t 1", "make b peek put 't say got 0", "make a peek put 'b say got 0",
                         "make c want put 'a say got 0")
        self.told(desk, "ask c b => made 1; made 1", "audit => -", "untold => -", "tell t 2 => ok", "ask c => made 1",
                  "audit => a b", "ask c => made 2", "untold => a b", "audit => -",
                  "log => done b; done a; done c; kept a; kept c; stale a; stale b; done b; untold b; done a; "
                  "untold a; done c",
                  "tell t 3 => ok", "audit => a b", "ask b => made 3", "untold => a b", "weave - a => made 3",
                  "untold => a b", "ask c => made 3")

    def test_untold_sorted_and_once(self):
        desk = self.desk("tell t 1", "make b peek put 't say row 1 got 0", "make a peek put 't say got 0", "ask b a")
        for value in (2, 3, 1):
            desk.say(f"tell t {value}")
            desk.say("audit")
            desk.say("ask b a")
        self.assertEqual(desk.say("log").count("untold b"), 3)
        self.told(desk, "untold => a b")

    def test_sweep(self):
        desk = self.desk(*BREAD, "make cake say put 1", "ask bread cake")
        self.told(desk, "sweep dough cake => ok", "why bread => none", "why dough => -", "why cake => -",
                  "sweep zz => ok", "why dough => none", "why cake => none", "log => done dough; done bread; done cake")

    def test_paper_check_and_take(self):
        desk = self.desk(*BREAD, "make burnt want put 'bread fail burnt", "make sweet want put 'sugar say put 1",
                         "ask burnt sweet")
        bread = "dough flour 2 : made 3; bread dough 3 : made (3)"
        self.told(desk, "paper dough => dough flour 2 : made 3", f"paper bread => {bread}",
                  f"paper burnt flour zz => {bread}; burnt bread (3) : fails burnt",
                  "paper sweet => sweet : wants sugar", "paper flour zz => -", f"check {bread} => lets by",
                  "check sweet : wants sugar => lets by", "check sweet : wants sugar; sweet : wants sugar => not",
                  "check bread dough 3 : made (3) => not", "check dough flour 3 : made 4 => not",
                  "check zz : made 1 => not", "check - => lets by")
        other = self.desk(*BREAD)
        self.told(other, f"take {bread} => ok", "log => -", "why bread => -", "ask bread => made (3)",
                  "log => kept dough; kept bread", f"paper bread => {bread}", "take - => ok",
                  "take dough flour 2 : made 3 => ok")

    def test_paper_and_back(self):
        """What is told as LINES is read as such."""
        source = things.source(102)
        for _ in range(60):
            desk, other = Desk(), Desk()
            book = source.choice([things.book, things.busy])(source, things.HONEST)
            for row in deed_rows(book):
                desk.say(row)
                other.say(row)
            names = " ".join(sorted(book[1]) or ["zz"])
            told = desk.say("ask " + names)
            paper = desk.say("paper " + names)
            self.assertEqual(other.say("check " + paper), "lets by")
            self.assertEqual(other.say("take " + paper), "ok")
            self.assertEqual(other.say("ask " + names), told)
            self.assertNotIn("done", other.say("log"))
            self.assertEqual(other.say("book"), desk.say("book"))

    def test_great_rows(self):
        wide = "make a say " + "row 8 " + " ".join(["put " + stamp_of(things.FORTY)] * 7) + " row 8" + " put 'x" * 8
        desk = Desk()
        self.assertEqual(desk.say(wide), "ok")
        self.assertEqual(desk.say("book"), wide.replace("make", "made"))
        names = things.names(40)
        desk = Desk()
        for name in names:
            desk.say(f"tell {name} {stamp_of(things.FORTY)}")
        told = desk.say("ask " + " ".join(names))
        self.assertEqual(told, "; ".join(["made " + stamp_of(things.FORTY)] * 40))
        self.assertEqual(desk.say("book").count("; "), 39)


def deed_rows(book):
    return ([f"tell {name} {stamp_of(value)}" for name, value in book[0].items()]
            + [f"make {name} {show_recipe(recipe)}" for name, recipe in book[1].items()])


NO_ROWS = (
    "", " ", "-", "a", "ok", ":", ";", "Tell a 1", "TELL a 1", "telling a 1", "told a 1", "made a fail x", "held",
    "shelf", "faults", "asks a", "result a", "log\n", "\nlog", "log;", "log; log", "book; log", "quit", "ask\ta",
    "ask\na",
    # tell
    "tell", "tell ", "tell a", "tell a ", "tell  a 1", "tell a  1", " tell a 1", "tell a 1 ", "tell a 1 2",
    "tell a 1 b", "tell A 1", "tell abcdefghi 1", "tell 1 1", "tell a1 1", "tell - 1", "tell a 01", "tell a -0",
    "tell a x", "tell a -",
    "tell a 'X", "tell a (1", "tell a (1, 2)", "tell a 1000000000000000001", "tell a '123456789012345678901",
    "tell a ((((()))))", "tell a (1,2,3,4,5,6,7,8,9)", "tell a 1\n", "tell a\n1", "tell a b 1", "tell a say put 1",
    # make
    "make", "make ", "make a", "make a ", "make  a fail x", "make a  fail x", "make a fail  x", "make a fail x ",
    " make a fail x", "make A fail x", "make a1 fail x", "make abcdefghi fail x", "make a fail", "make a fail X",
    "make a say", "make a say put", "make a say put x", "make a say got 0", "make a say put 1 2",
    "make a fail x fail y", "make a want put 'b say got 1", "make a when put 1 fail x", "make a 1", "make a -",
    "make fail x", "make a " + "want put 'b " * 13 + "fail x", "make a say " + "many " * 19 + "put 1",
    "make a b fail x",
    # strike, why
    "strike", "strike ", "strike a b", "strike  a", "strike a ", " strike a", "strike A", "strike a1", "strike -",
    "strike abcdefghi", "why", "why ", "why a b", "why  a", "why a ", " why a", "why A", "why -", "why 1",
    # names
    "ask", "ask ", "ask  a", "ask a ", " ask a", "ask a  b", "ask A", "ask a B", "ask a 1", "ask -", "ask a -",
    "ask a,b", "ask a; b", "ask abcdefghi", "ask a abcdefghi",
    "sweep", "sweep ", "sweep  a", "sweep a ", " sweep a", "sweep a  b", "sweep A", "sweep -", "sweep a 1", "sweep a;",
    "paper", "paper ", "paper  a", "paper a ", " paper a", "paper a  b", "paper A", "paper -", "paper a 1", "paper a,b",
    # weave
    "weave", "weave ", "weave -", "weave - ", "weave a", "weave a b", "weave  - a", "weave -  a", "weave - a ",
    " weave - a", "weave - a  b", "weave - A", "weave - a 1", "weave 1", "weave 1 ", "weave 01 a", "weave 00 a",
    "weave 10000 a", "weave 00000 a", "weave 1,10000 a", "weave 1,02 a", "weave 1, a", "weave ,1 a", "weave , a",
    "weave 1,,2 a", "weave 1, 2 a", "weave 1 2 a", "weave -1 a", "weave -0 a", "weave +1 a", "weave 1,- a",
    "weave -,1 a", "weave -- a",
    "weave 1;2 a", "weave 1.0 a", "weave x a", "weave 1,x a", "weave '1 a", "weave () a", "weave 1\n a", "weave - -",
    # nothing behind it
    "audit ", "audit a", " audit", "audit -", "book ", "book a", " book", "book -", "log ", "log a", " log", "log -",
    "untold ", "untold a", " untold", "untold -",
) + tuple([
    word + some for word in ("check", "take") for some in (
        "", " ", "  -", " - ", " -; -", " -;", " -; a : made 1", " a : made 1; -", " a", " a :", " a : made", " :",
        "  a : made 1", " a : made 1 ", " a  : made 1", " a : made 1;", " a : made 1; ", " ; a : made 1",
        " a : made 1;b : made 1", " a : made 1 ; b : made 1", " a : made 1;  b : made 1", " a : made 1; ; b : made 1",
        " a : made 1, b : made 1", " a : made 1; b", " a : made 01", " a b x : made 1", " A : made 1", " a : lacks b",
        " a : wants 1", " a : made 1\n", " a" + " b 1" * 13 + " : made 1", " []", " none",
        " a : made 1; b : made 1; c : made 1; d made 1")])


class Refusals(Desks):
    def test_rows_that_are_none(self):
        desk = self.desk("tell t 1", "make a want put 't say got 0", "make p peek put 't say got 0", "ask a p",
                         "tell t 2", "audit", "ask p")
        self.assertEqual(len(set(NO_ROWS)), len(NO_ROWS))
        for row in NO_ROWS:
            with self.subTest(row=row):
                self.refused(desk, NoRow, row)
                self.refused(Desk(), NoRow, row)
        self.told(desk, "why a => read 0 t 1 made 2", "why p => -")

    def test_ahead_of_all_else(self):
        desk = Desk()
        for name in things.names(40):
            desk.say(f"tell {name} 1")
        for row in ("tell zz x", "make zz fail", "strike zz ", "why zz zz", "weave 01 zz", "paper zz 1",
                    "take a made 1"):
            self.refused(desk, NoRow, row)

    def test_what_is_told_is_not_refused(self):
        """Rows near to those that are none."""
        desk = Desk()
        for row in ("tell a 0", "tell a '", "tell a -1", "make a fail x", "ask a", "ask a a", "weave 0 a",
                    "weave 9999 a", "weave 0,0,9999 a b", "weave - a", "sweep a", "paper a", "why a",
                    "check a : made 1", "check -",
                    "check a : made 1; b : made 1", "audit", "book", "log", "untold", "take a : fails x", "strike a",
                    "make a " + "want put 'b " * 12 + "fail x", "make a say " + "many " * 18 + "put 1"):
            with self.subTest(row=row):
                self.assertIs(type(desk.say(row)), str)

    def test_too_many(self):
        desk = Desk()
        for name in things.names(40):
            desk.say(f"tell {name} 1")
        self.refused(desk, TooMany, "tell zz 1")
        self.refused(desk, TooMany, "make zz fail x")
        self.told(desk, "make aa fail x => ok", "strike ab => ok", "tell zz 1 => ok")

    def test_no_thing(self):
        desk = self.desk("tell t 1", "make a say put 1")
        self.refused(desk, NoThing, "strike b")
        self.refused(desk, NoThing, "why t")
        self.refused(desk, NoThing, "why zz")
        self.told(desk, "why a => none", "strike a => ok")
        self.refused(desk, NoThing, "why a")
        self.refused(desk, NoThing, "strike a")

    def test_no_paper(self):
        desk = self.desk(*BREAD)
        self.assertEqual(self.refused(desk, NoPaper, "paper bread dough").name, "bread")
        self.told(desk, "ask bread => made (3)", "tell flour 3 => ok")
        self.assertEqual(self.refused(desk, NoPaper, "paper dough bread").name, "bread")
        self.told(desk, "ask dough => made 4")
        self.assertEqual(self.refused(desk, NoPaper, "paper bread").name, "bread")

    def test_bad_papers(self):
        desk = self.desk(*BREAD, "ask dough")
        for lines in ("bread dough 3 : made (3)", "dough flour 3 : made 4", "flour : made 2", "zz : wants zz",
                      "dough flour 2 : made 3; dough flour 2 : made 3"):
            self.refused(desk, BadPaper, "take " + lines)
        self.told(desk, "why bread => none", "why dough => -")

    def test_two_desks(self):
        one, other = self.desk(*BREAD, "ask bread"), Desk()
        self.told(other, "book => -", "log => -", "ask bread => lacks by bread", "tell bread 1 => ok",
                  "strike bread => ok")
        self.told(one, "log => done dough; done bread")
        for row in BREAD:
            other.say(row)
        self.told(other, "ask bread => made (3)", "log => done dough; done bread")


class AgainstAHouse(Desks):
    """Drawn rows: the desk answers what its house would tell."""

    def row_of(self, deed):
        word, given = deed[0], deed[1:]
        if word == "tell":
            return f"tell {given[0]} {stamp_of(given[1])}"
        if word == "make":
            return f"make {given[0]} {show_recipe(given[1])}"
        if word == "weave":
            return f"weave {','.join([str(turn) for turn in given[1]]) or '-'} {' '.join(given[0])}"
        if word == "take":
            return "take " + ("; ".join(paper_texts(given[0])) or "-")
        if word in ("ask", "sweep", "paper"):
            return f"{word} {' '.join(given[0])}"
        return " ".join(deed)

    def answer(self, house, deed):
        told = getattr(house, deed[0])(*deed[1:])
        if told is None:
            return "ok"
        if deed[0] in ("ask", "weave"):
            return "; ".join([result_text(result) for result in told])
        return ("; ".join(paper_texts(told)) if deed[0] == "paper" else " ".join(told)) or "-"

    def test_drawn_rows(self):
        source = things.source(103)
        seen = {}
        for _ in range(80):
            words = source.choice([things.HONEST, things.PEEKING])
            desk, house = Desk(), House()
            deeds = iter(plainhouse.opened(source, words))
            for _ in range(40):
                deed = next(deeds, None) or plainhouse.drawn_row(source, house.book(), words)
                if deed[0] in ("ask", "weave", "sweep", "paper") and not deed[1]:
                    continue
                try:
                    answer = self.answer(house, deed)
                except RedoError as error:
                    caught = self.refused(desk, type(error), self.row_of(deed))
                    self.assertEqual(getattr(caught, "name", None), getattr(error, "name", None))
                    answer = "refused"
                else:
                    self.assertEqual(desk.say(self.row_of(deed)), answer)
                key = deed[0] + (" refused" if answer == "refused" else "")
                seen[key] = seen.get(key, 0) + 1
                self.same(desk, house)
        self.assertGreater(min(seen.values()), 10, seen)
        self.assertEqual(sorted(seen), ["ask", "audit", "make", "paper", "paper refused", "strike", "sweep", "take",
                                        "take refused", "tell", "weave"])

    def same(self, desk, house):
        book, log = house.book(), house.log()
        self.assertEqual(desk.say("book"), "; ".join(shown_book(book)) or "-")
        self.assertEqual(desk.say("log"), "; ".join([log_text(row) for row in log]) or "-")
        self.assertEqual(desk.say("untold"), " ".join(sorted({name for word, name in log if word == "untold"})) or "-")
        for name in book[1]:
            self.assertEqual(desk.say("why " + name), reason_text(reason_for(book, house.held(), name)))


class Orders(Desks):
    def test_in_whatever_order_told(self):
        rows = BREAD + ("make bun want put 'dough say got 0",)
        wanted = None
        for some in itertools.permutations(rows):
            desk = self.desk(*some)
            told = [desk.say(row) for row in ("book", "ask bun bread", "log", "paper bread bun", "why bun")]
            wanted = wanted or told
            self.assertEqual(told, wanted)


if __name__ == "__main__":
    unittest.main()
