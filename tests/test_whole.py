"""Point 5, and 91, 97 and 99 over the whole program: houses of many drawn books, by drawn rows of deeds."""

import copy
import itertools
import unittest

import plain
import plainhouse
import things
from redo.audits import stale
from redo.booktexts import read_book, shown_book
from redo.bringing import bring
from redo.checker import lets_by, shown_by
from redo.errors import BadPaper, NoPaper
from redo.fetching import bring_by
from redo.held import is_held, stands
from redo.honest import honest_by
from redo.house import House
from redo.making import fresh, good_values, line_of
from redo.papers import paper_of, result_by
from redo.recipetexts import read_recipe, show_recipe
from redo.reports import paper_by, paper_texts
from redo.shelf import Shelf
from redo.shelftexts import shelf_by, written
from redo.stamps import stamp_of
from redo.weaving import woven


def shelf_of(entries):
    shelf = Shelf()
    for entry in entries:
        shelf.put(entry)
    return shelf


class Houses(unittest.TestCase):
    def drawn(self, seed, many, words=None, rows=25):
        """Houses, each with what is done to it: pairs of a house and an iterator of rows by its book as it is then."""
        source = things.source(seed)
        for _ in range(many):
            house = House()
            kinds = words or source.choice([things.HONEST, things.PEEKING])
            for deed in plainhouse.opened(source, kinds):
                self.do(house, deed)
            yield source, house, self.rows(source, house, kinds, rows)

    def rows(self, source, house, words, many):
        for _ in range(many):
            yield plainhouse.drawn_row(source, house.book(), words)

    def do(self, house, row):
        return getattr(house, row[0])(*copy.deepcopy(row[1:]))

    def done_or_not(self, house, row):
        try:
            return self.do(house, row)
        except (BadPaper, NoPaper):
            return None


class AgainstAPlainHouse(Houses):
    """Each row of deeds is told and done as a second reading of the document has it."""

    def same(self, house, other):
        self.assertEqual(house.book(), other.book)
        self.assertEqual(house.held(), other.held)
        self.assertEqual(house.log(), other.log)
        self.assertEqual(house.shelf(), other.entries)
        self.assertIs(is_held(house.held()), True)

    def test_drawn_rows(self):
        seen = {}
        words = set()
        for source, house, rows in self.drawn(300, 220):
            other = plainhouse.House()
            for name in house.book()[0]:
                other.tell(name, house.book()[0][name])
            for name in house.book()[1]:
                other.make(name, house.book()[1][name])
            for row in rows:
                given = repr(row)
                key = self.one_row(house, other, row)
                self.assertEqual(repr(row), given)
                seen[key] = seen.get(key, 0) + 1
                self.same(house, other)
            self.assertEqual(house.faults(), plain.faults(other.shown))
            words.update([word for word, _ in house.log()])
        self.assertGreater(min(seen.values()), 30, seen)
        self.assertEqual(sorted(words), ["done", "fetched", "kept", "stale", "untold"])

    def one_row(self, house, other, row):
        """Does it to both; tells its word, and whether it was refused."""
        if row[0] == "paper":
            return self.papers(house, other, row[1])
        if row[0] == "take":
            return self.takes(house, other, row[1])
        told, wanted = self.do(house, row), getattr(other, row[0])(*row[1:])
        if row[0] in ("ask", "weave"):
            self.assertEqual(len(told), len(wanted))
            for one, another in zip(told, wanted):
                self.assertIn(another, (one, None))
        else:
            self.assertEqual(told, wanted)
        return row[0]

    def papers(self, house, other, names):
        wanted = other.paper(names)
        if isinstance(wanted, str):
            with self.assertRaises(NoPaper) as caught:
                house.paper(names)
            self.assertEqual(caught.exception.name, wanted)
            return "no paper"
        told = house.paper(names)
        self.assertEqual(sorted(told), wanted)
        self.assertIs(plain.ordered(told), True)
        honest = all(plain.is_honest(other.book[1][line[0]]) for line in told)
        self.assertIs(house.check(told) or not honest, True)
        return "paper"

    def takes(self, house, other, paper):
        self.assertIs(house.check(paper), plain.let_by(other.book, paper))
        if other.take(paper):
            self.assertIsNone(house.take(paper))
            for name, reads, end in paper:
                self.assertEqual((name, reads, end), plain.line(other.book, name))
            return "take"
        with self.assertRaises(BadPaper):
            house.take(paper)
        return "bad paper"


class HonestHouses(Houses):
    """Of honest books, by whatever row of changes (5)."""

    def test_what_is_asked_or_woven(self):
        seen = {"kept": 0, "done": 0, "fetched": 0}
        results = {"made": 0, "fails": 0, "lacks": 0, "ring": 0}
        for source, house, rows in self.drawn(301, 150, things.HONEST):
            for row in rows:
                ahead, many = house.held(), len(house.log())
                told = self.done_or_not(house, row)
                if row[0] in ("ask", "weave"):
                    log = house.log()[many:]
                    self.settled(house, ahead, log, row)
                    self.assertEqual(told, [fresh(house.book(), name) for name in row[1]])
                    self.assertEqual(told, [plain.result(house.book(), name) for name in row[1]])
                    for word, _ in log:
                        seen[word] += 1
                    for result in told:
                        results[result[0]] += 1
            self.assertEqual(house.faults(), [])
            self.assertEqual(stale(house.book(), house.held()), [])
            self.assertEqual({word for word, _ in house.log()} - {"kept", "done", "fetched"}, set())
        self.assertGreater(min(list(seen.values()) + list(results.values())), 80, (seen, results))

    def settled(self, house, ahead, log, row):
        book, held = house.book(), house.held()
        names = [name for _, name in log]
        self.assertEqual(len(set(names)), len(names))
        self.assertLessEqual({name for name in row[1] if name in book[1]}, set(names))
        for place, (word, name) in enumerate(log):
            self.assertEqual(held[name], (show_recipe(book[1][name]), line_of(book, name)))
            # No thing is done whose held line stands, and each one whose line doesn't.
            self.assertIs(stands(book, ahead, name), word == "kept")
            # Each behind what it read.
            for read, _ in held[name][1][1]:
                self.assertIn(read, list(book[0]) + names[:place])
        self.assertEqual({name: kept for name, kept in held.items() if name not in names},
                         {name: kept for name, kept in ahead.items() if name not in names})
        paper = [held[name][1] for name in names]
        self.assertIs(lets_by(book, paper), True)
        for name in names:
            self.assertEqual(result_by(paper, name), fresh(book, name))
        self.assertEqual(sorted(house.paper(row[1])), sorted(paper))

    def test_asked_again_all_is_kept(self):
        for source, house, rows in self.drawn(302, 60, things.HONEST):
            for row in rows:
                self.done_or_not(house, row)
                if row[0] in ("ask", "weave"):
                    held, shelf, many = house.held(), house.shelf(), len(house.log())
                    house.ask(row[1])
                    house.weave(source.sample(row[1], len(row[1])), plainhouse.drawn_turns(source))
                    self.assertLessEqual({word for word, _ in house.log()[many:]}, {"kept"})
                    self.assertEqual((house.held(), house.shelf()), (held, shelf))

    def test_asked_and_woven_the_same(self):
        """In whatever order workers move, whatever the shelf: the same lines, the same things done."""
        seen = 0
        for source, house, rows in self.drawn(303, 60, things.HONEST):
            for row in rows:
                if row[0] not in ("ask", "weave"):
                    self.done_or_not(house, row)
                    continue
                book, held, names = house.book(), house.held(), row[1]
                wanted, log = bring(book, held, names)
                done = sorted([name for word, name in log if word == "done"])
                many = len(house.log())
                self.do(house, row)
                self.assertEqual(house.held(), wanted)
                self.assertEqual(sorted([name for word, name in house.log()[many:] if word != "kept"]), done)
                again = woven(things.shuffled(source, book), held, names[::-1], plainhouse.drawn_turns(source))
                self.assertEqual((again[0], sorted(again[1])), (wanted, sorted(log)))
                shelf = shelf_of(house.shelf() + things.entries(source, book))
                fetched = bring_by(book, held, shelf, names)
                self.assertEqual(fetched[0], wanted)
                self.assertEqual([name for _, name in fetched[1]], [name for _, name in log])
                seen += len(done)
        self.assertGreater(seen, 200)


class AuditedHouses(Houses):
    """With peeks: audited behind the last deed, all is told as made afresh (91, 97)."""

    def test_behind_an_audit(self):
        seen, gone = 0, 0
        for source, house, rows in self.drawn(304, 120, things.PEEKING):
            for row in rows:
                self.done_or_not(house, row)
                if row[0] in ("tell", "make", "strike"):
                    ahead = house.held()
                    names = house.audit()
                    self.assertEqual(names, plain.stale(house.book(), ahead))
                    self.assertEqual(sorted(house.held()), sorted(set(ahead) - set(names)))
                    gone += len(names)
                if row[0] in ("ask", "weave"):
                    self.is_fresh(source, house, row[1])
                    seen += 1
            self.assertEqual(house.audit(), [])
        self.assertGreater(seen, 500)
        self.assertGreater(gone, 60)

    def is_fresh(self, source, house, names):
        """Asked or woven again, all is kept and told as made afresh."""
        book = house.book()
        wanted = [plain.result(book, name) for name in names]
        held, many = house.held(), len(house.log())
        self.assertEqual(house.ask(names), wanted)
        self.assertEqual(house.weave(names, plainhouse.drawn_turns(source)), wanted)
        self.assertEqual(house.held(), held)
        log = house.log()[many:]
        self.assertLessEqual({word for word, _ in log}, {"kept"})
        for _, name in log:
            self.assertEqual(held[name], (show_recipe(book[1][name]), line_of(book, name)))

    def test_at_first(self):
        """The very rows behind the audit, not those asked again."""
        seen = 0
        for source, house, rows in self.drawn(305, 120, things.PEEKING):
            for row in rows:
                if row[0] in ("ask", "weave") and source.random() < 0.5:
                    house.audit()
                    book, many = house.book(), len(house.log())
                    self.assertEqual(self.do(house, row), [fresh(book, name) for name in row[1]])
                    for word, name in house.log()[many:]:
                        self.assertEqual(house.held()[name][1], plain.line(book, name))
                        seen += word == "done"
                else:
                    self.done_or_not(house, row)
        self.assertGreater(seen, 200)

    def test_without_one_it_may_be_otherwise(self):
        otherwise = 0
        for source, house, rows in self.drawn(306, 100, things.PEEKING):
            for row in rows:
                told = self.done_or_not(house, row)
                if row[0] == "ask":
                    otherwise += told != [fresh(house.book(), name) for name in row[1]]
        self.assertGreater(otherwise, 20)


class Faults(Houses):
    """What no honest recipe could have done is found as it comes, with the elder one that shows it (5, 94)."""

    def test_the_first_such(self):
        seen = {"recipe": 0, "odds": 0}
        for source, house, rows in self.drawn(307, 150, things.PEEKING):
            shown = {}
            for row in rows:
                many, ahead = len(house.log()), len(house.faults())
                self.done_or_not(house, row)
                found = house.faults()[ahead:]
                for word, name in house.log()[many:]:
                    text, line = house.held().get(name, (None, None))
                    if word == "done":
                        shown.setdefault(text, []).append(line)
                        elder = [other for other in shown[text][:-1] if plain.at_odds(other, line)]
                        self.assertEqual(found[:1] == [(text, (elder or [None])[0], line)], elder != [])
                        found = found[1:] if elder else found
                self.assertEqual(found, [])
            for text, lines in shown.items():
                faulty = [new for other, _, new in house.faults() if other == text]
                if all(len(line[1]) <= 3 for line in lines[:5]) and "peek" in text:
                    told = honest_by(lines[:5])
                    self.assertEqual(told[0] == "odds", any(
                        plain.at_odds(*pair) for pair in itertools.combinations(lines[:5], 2)))
                    self.assertIs(faulty != [] or told[0] == "recipe", True)
                    seen[told[0]] += 1
        self.assertGreater(min(seen.values()), 30, seen)


class WhoeverWroteThem(Houses):
    """Each line of a paper that is let by is the line of its thing (5, 38)."""

    def test_papers_of_any_lines(self):
        source = things.source(308)
        seen = {True: 0, False: 0}
        for _ in range(600):
            book = source.choice([things.book, things.busy])(source, source.choice([things.HONEST, things.PEEKING]))
            paper = plainhouse.drawn_paper(source, source.choice([book, things.turned(source, book, things.HONEST)]))
            paper = source.sample(paper, source.randint(0, len(paper))) if source.random() < 0.3 else paper
            told = lets_by(book, paper)
            seen[told] += len(paper)
            if told:
                for line in paper:
                    self.assertEqual(line, plain.line(book, line[0]))
                    self.assertEqual(shown_by(paper)[line[0]], line[2])
                    self.assertEqual(result_by(paper, line[0]), plain.result(book, line[0]))
        self.assertGreater(min(seen.values()), 300, seen)

    def test_papers_of_another_house(self):
        """Papers of one house of a book are taken by another one; with peeks, where they are let by."""
        seen = {True: 0, False: 0}
        for source, house, rows in self.drawn(309, 150):
            for row in itertools.islice(rows, 10):
                self.done_or_not(house, row)
            house.audit()
            names = things.asked_names(source, house.book())
            told = house.ask(names)
            paper = house.paper(names)
            self.assertEqual(sorted(paper), sorted({name: house.held()[name][1] for _, name in house.log()
                                                    if name in [line[0] for line in paper]}.values()))
            other = House()
            for name, value in house.book()[0].items():
                other.tell(name, value)
            for name, recipe in house.book()[1].items():
                other.make(name, recipe)
            taken = other.check(paper)
            seen[taken] += 1
            if not taken:
                self.assertTrue(any(not plain.is_honest(house.book()[1][line[0]]) for line in paper))
                with self.assertRaises(BadPaper):
                    other.take(paper)
                continue
            other.take(paper)
            self.assertEqual(other.held(), {line[0]: (show_recipe(house.book()[1][line[0]]), line) for line in paper})
            if all(plain.is_honest(recipe) for recipe in house.book()[1].values()):
                self.assertEqual(other.ask(names), told)
                self.assertLessEqual({word for word, _ in other.log()}, {"kept"})
        self.assertGreater(min(seen.values()), 10, seen)


class AsTexts(Houses):
    """Books, recipes, papers and shelves written as texts and read again tell, bring and fetch the same."""

    def test_read_again(self):
        for source, house, rows in self.drawn(310, 120):
            for row in itertools.islice(rows, 12):
                self.done_or_not(house, row)
            book, held = house.book(), house.held()
            again = read_book(source.sample(shown_book(book), len(shown_book(book))))
            self.assertEqual(again, book)
            for name, recipe in book[1].items():
                self.assertEqual(read_recipe(show_recipe(recipe)), recipe)
            shelf = shelf_of(house.shelf())
            other = shelf_by(written(shelf))
            self.assertEqual(other.entries(), house.shelf())
            names = things.asked_names(source, book)
            turns = plainhouse.drawn_turns(source)
            self.assertEqual(good_values(again), good_values(book))
            self.assertEqual([fresh(again, name) for name in names], [fresh(book, name) for name in names])
            self.assertEqual(bring(again, held, names), bring(book, held, names))
            self.assertEqual(woven(again, held, names, turns), woven(book, held, names, turns))
            self.assertEqual(bring_by(again, held, other, names), bring_by(book, held, shelf, names))
            self.assertEqual(other.entries(), shelf.entries())
            self.papers_again(book, again, names)
            self.houses_again(source, house, again)

    def papers_again(self, book, again, names):
        if any(not plain.is_honest(recipe) for recipe in book[1].values()):
            return
        paper = paper_of(book, names)
        read = paper_by(paper_texts(paper))
        self.assertEqual(read, paper)
        self.assertIs(lets_by(again, read), True)
        for line in paper:
            self.assertEqual(result_by(read, line[0]), result_by(paper, line[0]))

    def houses_again(self, source, house, again):
        """A house of the book that was read tells the same, told by rows that were written."""
        other = House()
        for name, value in again[0].items():
            other.tell(name, value)
        for name, recipe in again[1].items():
            other.make(name, recipe)
        house.audit()
        names = things.asked_names(source, again)
        self.assertEqual(other.ask(names), house.ask(names))
        for name in names:
            if name in again[1]:
                self.assertEqual(other.held()[name], house.held()[name])

    def test_held_values_as_stamps(self):
        for _, house, rows in self.drawn(311, 30):
            for row in rows:
                told = self.done_or_not(house, row)
                if row[0] == "ask":
                    for name, result in zip(row[1], told):
                        if result[0] == "made" and name in house.book()[1]:
                            self.assertIn(house.held()[name][1][2], [("made", stamp_of(result[1]))])


class Orders(Houses):
    """The order in which names are told and made changes nothing but the log's elder rows (99)."""

    def test_drawn_rows_with_deeds_in_another_order(self):
        for source, house, rows in self.drawn(312, 100):
            other, opening = House(), [("tell", *pair) for pair in house.book()[0].items()]
            opening += [("make", *pair) for pair in house.book()[1].items()]
            for deed in source.sample(opening, len(opening)):
                self.do(other, deed)
            waiting = {}
            for row in rows:
                if row[0] in ("tell", "make", "strike"):
                    self.do(house, row)
                    waiting.setdefault(row[1], []).append(row)
                    continue
                # Deeds of several names that stand side by side are done in another order.
                for name in source.sample(sorted(waiting), len(waiting)):
                    for deed in waiting[name]:
                        self.do(other, deed)
                waiting = {}
                self.assertEqual(self.done_or_not(house, row), self.done_or_not(other, row))
                for told in ("book", "held", "log", "shelf", "faults"):
                    self.assertEqual(getattr(house, told)(), getattr(other, told)())


if __name__ == "__main__":
    unittest.main()
