"""Fetching: names are brought by a shelf, and what is done for that is put on it (points 78 and 79)."""

from redo.bringing import bring_all
from redo.settling import Settling


def bring_by(book, held, shelf, names):
    return bring_all(Settling(book, held, shelf), names)
