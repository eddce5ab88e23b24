"""Point 77: two shelves merged."""

import unittest

import plain
import things
from redo.merging import merged
from redo.shelf import Shelf

ONE = "want put 'b say got 0"
A = things.entry("say put 1", ": made 1")
B = things.entry("fail x", ": fails x")
C = things.entry(ONE, "b 1 : made 1")
D = things.entry(ONE, "b 2 : made 2")
E = things.entry("want put 'b want put 'c say got 1", "b 1 c 5 : made 5")


def shelf_of(*entries):
    shelf = Shelf()
    for entry in entries:
        shelf.put(entry)
    return shelf


class Merged(unittest.TestCase):
    def merges(self, one, other, *wanted):
        """Both stay, the merged one has these, and either way about the same is found."""
        ahead, behind = shelf_of(*one), shelf_of(*other)
        told = merged(ahead, behind)
        self.assertIs(type(told), Shelf)
        self.assertEqual(told.entries(), list(wanted))
        self.assertEqual((ahead.entries(), behind.entries()), (list(one), list(other)))
        turned = merged(behind, ahead)
        self.assertEqual(sorted(turned.entries()), sorted(wanted))
        self.same(told, turned, list(wanted))
        self.assertEqual((ahead.entries(), behind.entries()), (list(one), list(other)))
        return told, ahead, behind

    def same(self, told, turned, entries):
        for text, reads, end in entries + [A, B, C, D, E]:
            for asked in [reads[:k] for k in range(len(reads) + 1)] + [reads[:-1] + (("b", "7"),), reads + reads]:
                self.assertEqual(told.found(text, asked), plain.found(entries, text, asked))
                self.assertEqual(turned.found(text, asked), told.found(text, asked))

    def test_of_none(self):
        self.merges((), ())
        self.assertIsNone(merged(Shelf(), Shelf()).found("say put 1", ()))

    def test_of_one_alone(self):
        self.merges((A, C, B), (), A, C, B)

    def test_of_the_other_alone(self):
        self.merges((), (C, A), C, A)

    def test_of_both(self):
        self.merges((A, B), (C, D), A, B, C, D)
        self.merges((A, B), (B, A), A, B)
        self.merges((B, A), (A, B), B, A)
        self.merges((A, B, C), (D, B, E, A), A, B, C, D, E)
        self.merges((E, D), (A, E), E, D, A)
        self.merges((C,), (D,), C, D)

    def test_with_itself(self):
        shelf = shelf_of(B, A)
        told = merged(shelf, shelf)
        self.assertEqual(told.entries(), [B, A])
        told.put(C)
        self.assertEqual(shelf.entries(), [B, A])
        shelf.put(D)
        self.assertEqual(told.entries(), [B, A, C])

    def test_what_is_put_on_one_later(self):
        for which in range(3):
            three = self.merges((A,), (B, A), A, B)
            had = [shelf.entries() for shelf in three]
            three[which].put(C)
            for at, shelf in enumerate(three):
                self.assertEqual(shelf.entries(), had[at] + ([C] if at == which else []))
                self.assertEqual(shelf.found(ONE, ()), "b" if at == which else None)
                self.assertEqual(shelf.found(ONE, C[1]), ("made", "1") if at == which else None)

    def test_merged_again(self):
        told = merged(merged(shelf_of(A), shelf_of(B)), merged(shelf_of(B, C), shelf_of(D, A)))
        self.assertEqual(told.entries(), [A, B, C, D])

    def test_drawn_shelves(self):
        source = things.source(770)
        both = 0
        for _ in range(80):
            book = things.book(source, things.HONEST)
            entries = list(dict.fromkeys(things.entries(source, book)))
            one = [entry for entry in entries if source.random() < 0.6]
            other = [entry for entry in source.sample(entries, len(entries)) if source.random() < 0.6]
            self.merges(one, other, *one, *[entry for entry in other if entry not in one])
            both += len(set(one) & set(other))
        self.assertGreater(both, 50)


if __name__ == "__main__":
    unittest.main()
