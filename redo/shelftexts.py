"""Entries and shelves written as texts, and read from such (point 76)."""

from redo.errors import BadLine
from redo.lines import MOST_READS
from redo.shelf import Shelf, is_entry
from redo.stamps import number_by


def entry_text(entry):
    words = [entry[2][0], entry[2][1], str(len(entry[1]))]
    for read in entry[1]:
        words.extend(read)
    return " ".join(words + [entry[0]])


def entry_by(text):
    words = text.split(" ", 3)
    many = number_by(words[2]) if len(words) == 4 else None
    if many is None or not 0 <= many <= MOST_READS:
        return None
    # Two words for each read, and all that stands behind them is the recipe's text.
    behind = words[3].split(" ", 2 * many)
    if len(behind) <= 2 * many:
        return None
    reads = tuple([(behind[2 * k], behind[2 * k + 1]) for k in range(many)])
    entry = (behind[2 * many], reads, (words[0], words[1]))
    return entry if is_entry(entry) else None


def written(shelf):
    return [entry_text(entry) for entry in shelf.entries()]


def shelf_by(texts):
    if not isinstance(texts, list):
        raise BadLine(0)
    shelf = Shelf()
    for at, text in enumerate(texts):
        entry = entry_by(text) if isinstance(text, str) else None
        if entry is None:
            raise BadLine(at)
        shelf.put(entry)
    return shelf
