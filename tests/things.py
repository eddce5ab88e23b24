"""Things of many kinds for the tests, and values and exprs by a fixed row of numbers."""

import random


class Touchy:
    """A thing that can't be compared, counted, walked, or shown."""

    __hash__ = None

    def refuse(self, *args):
        raise RuntimeError("touched")

    __eq__ = __ne__ = __lt__ = __le__ = __gt__ = __ge__ = refuse
    __len__ = __iter__ = __getitem__ = __bool__ = __repr__ = __str__ = __int__ = __index__ = refuse


def ringed_list():
    ring = []
    ring.append(ring)
    return ring


def ringed_tuple():
    inner = []
    ring = (inner,)
    inner.append(ring)
    return ring


def nested(part, depth):
    for _ in range(depth):
        part = (part,)
    return part


def shared(part, depth, breadth=8):
    """A row that shares its parts: great beyond counting, for a few tuples."""
    for _ in range(depth):
        part = (part,) * breadth
    return part


def odd_things():
    """Things that are no names, no values and no exprs."""
    return [
        None, True, False, 0.0, 1.0, float("nan"), float("inf"), 1j, b"", b"a", bytearray(b"a"),
        [], ["a"], [1, 2], {}, {"a": 1}, set(), {1}, frozenset(), frozenset(["a"]), range(3), object(),
        object, len, str, int, iter([1]), (x for x in (1,)), lambda: 1, Touchy(), ringed_list(), ringed_tuple(),
        Ellipsis, NotImplemented, Exception("a"), memoryview(b"a"),
    ]


def single(source):
    if source.random() < 0.5:
        return source.choice([0, 1, -1, 7, -10, 10 ** 18, -10 ** 18, source.randint(-10 ** 18, 10 ** 18)])
    many = source.choice([0, 1, 2, 5, 19, 20])
    return "".join([source.choice("abcxyz0189-") for _ in range(many)])


def value(source, rows_left=4):
    """Any value, but that it may be of more than forty."""
    if rows_left == 0 or source.random() < 0.4:
        return single(source)
    return tuple([value(source, rows_left - 1) for _ in range(source.randint(0, 4))])


def source(seed):
    return random.Random(seed)
