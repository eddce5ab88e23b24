"""Merging: the entries of two shelves on a new one (point 77)."""

from redo.shelf import Shelf


def merged(one, other):
    shelf = Shelf()
    for entry in one.entries() + other.entries():
        shelf.put(entry)
    return shelf
