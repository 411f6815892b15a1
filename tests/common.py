"""What the tests share: webs, strange things, and checks of kinds and errors."""

import unittest
from itertools import combinations, permutations

from evenorders.desk import Desk
from evenorders.draws import Draw
from evenorders.errors import BadWeb, NoName
from evenorders.webs import Web

# e01 to e13 of the document speak of these.
T = Web(3, ((0, 2),))
N = Web(4, ((0, 2), (1, 2), (1, 3)))
F = Web(3, ((0, 1), (0, 2)))

ONE = Web(1, ())
APART8 = Web(8, ())
ROW8 = Web(8, tuple((name, name + 1) for name in range(7)))
LEVELS8 = Web(8, tuple((one, other) for one in range(4) for other in range(4, 8)))
ALMOST_LEVELS8 = Web(8, LEVELS8.befores[:-1])
# There is no web of at most 8 names with 4705 to 5039 orders.
WITH_4704 = Web(8, ((0, 7), (1, 7), (2, 7), (5, 6), (5, 7)))
WITH_5040 = Web(7, ())
WITH_200 = Web(8, ((0, 6), (0, 7), (1, 4), (1, 6), (1, 7), (2, 5), (2, 6), (2, 7),
                   (3, 5), (3, 6), (3, 7), (5, 6), (5, 7), (6, 7)))
WITH_201 = Web(8, ((0, 4), (0, 5), (0, 7), (1, 4), (1, 6), (2, 3), (2, 5), (2, 6), (2, 7),
                   (3, 5), (3, 6), (3, 7), (5, 7)))


def all_webs(many):
    """All webs of so many names, found from what a web is, for few names."""
    pairs = [(one, other) for one in range(many) for other in range(many) if one != other]
    found = []
    for size in range(len(pairs) + 1):
        for befores in combinations(pairs, size):
            if is_web(befores):
                found.append(Web(many, befores))
    return found


def is_web(befores):
    held = set(befores)
    if any((other, one) in held for one, other in held):
        return False
    return all((a, d) in held for a, b in held for c, d in held if b == c)


FEW_WEBS = [web for many in (1, 2, 3, 4) for web in all_webs(many)]
GREATER_WEBS = [
    Web(5, ()),
    Web(5, ((0, 1), (1, 2), (2, 3), (3, 4))),
    Web(5, ((3, 1), (4, 2))),
    Web(5, ((0, 2), (1, 2), (1, 3), (4, 3))),
    Web(5, ((0, 2), (0, 3), (0, 4), (1, 2), (1, 3), (1, 4))),
    Web(6, ((0, 3), (0, 4), (1, 3), (1, 5), (2, 4), (2, 5))),
    Web(6, ((1, 0), (2, 1), (4, 3), (5, 4))),
    Web(6, ((0, 2), (1, 3), (2, 4), (3, 5))),
]


def brute_orders(web):
    return [row for row in permutations(range(web.many))
            if all(row.index(one) < row.index(other) for one, other in web.befores)]


def brute_lots(web):
    """All closed lots, ascending."""
    names = range(web.many)
    lots = [lot for size in range(web.many + 1) for lot in combinations(names, size)]
    return sorted(lot for lot in lots
                  if all(one in lot for one, other in web.befores if other in lot))


def nested(deep, wrap):
    thing = 0
    for _ in range(deep):
        thing = wrap(thing)
    return thing


def strange():
    """Things of all kinds, none of which is a name, a lot, an order or a way of T."""
    return [
        None, True, False, -1, 3, 8, 10 ** 59, -10 ** 59,
        "", "0", "front ", "Front", "frontback", b"", b"front", bytearray(b"0"), memoryview(b"0"),
        [], {}, {0: 1}, {(0, 1): [2]}, [0], [0, 1], [0, 1, 2], [(0, 1, 2)], (None,), ("0",),
        (True,), (False, 1), (False, True, 2), ("0", "1", "2"), ((0,), (1,), (2,)), ([0], [1], [2]),
        (1, 0), (0, 0), (0, 3), (-1, 0), (0, 1, 1), (2, 1, 0), (0, 1, 2, 3), (0, None), (0, ()),
        range(0), range(3), slice(0, 2), iter([0]), (name for name in (0,)), object(), int, len,
        lambda: 0, ..., NotImplemented, ValueError("x"), Web(3, ()), (Web(1, ()),), NoName(),
        BadWeb([1]), (NoName(), BadWeb("many"), Web(2, ())),
        Draw(Web(2, ())), Desk(), [Draw(Web(1, ())), Desk()],
        nested(40, lambda thing: (thing,)), nested(40, lambda thing: [thing]),
        nested(40, lambda thing: {0: thing}), nested(40, lambda thing: (0, thing, 2)),
        nested(40, lambda thing: ((0, 1), thing)), nested(40, lambda thing: [(0, 1, 2), thing]),
        tuple(range(9999)), [0] * 9999, ((),) * 9999, (0,) * 9999, ((0, 1),) * 3000,
    ]


def strange_but(*allowed):
    """Those of the strange things that are not, kind by kind, one of these."""
    kept = [exact(thing) for thing in allowed]
    return [thing for thing in strange() if exact(thing) not in kept]


def exact(thing):
    """A thing with the kinds of all that is in it."""
    if isinstance(thing, (list, tuple)):
        return (type(thing), [exact(item) for item in thing])
    if isinstance(thing, dict):
        items = [(exact(key), exact(thing[key])) for key in thing]
        return (dict, sorted(items, key=repr))
    if isinstance(thing, Web):
        return (Web, exact(thing.many), exact(thing.befores))
    return (type(thing), thing)


class Recorder:
    """A function that a stranger hands in, and all that it is called with."""

    def __init__(self, function):
        self.function, self.seen = function, []

    def __call__(self, *args):
        self.seen.append(args)
        return self.function(*args)


class Case(unittest.TestCase):
    def assert_same(self, got, expected):
        self.assertEqual(exact(got), exact(expected))

    def assert_flag(self, got, expected):
        self.assertIs(got, bool(expected))

    def assert_refused(self, error, fields, function, *args):
        """Just this error is raised, with just these fields, and nothing is changed."""
        before = [repr(arg) for arg in args]
        with self.assertRaises(error) as caught:
            function(*args)
        self.assertIs(type(caught.exception), error)
        self.assert_same(vars(caught.exception), fields)
        self.assertEqual([repr(arg) for arg in args], before)

    def assert_new(self, function, *args):
        """What is returned is new each time, and spoiling it spoils nothing."""
        first = function(*args)
        second = function(*args)
        self.assertIsNot(first, second)
        self.assert_same(first, second)
        kept = exact(second)
        first.clear()
        self.assertEqual(exact(second), kept)
        self.assertEqual(exact(function(*args)), kept)
