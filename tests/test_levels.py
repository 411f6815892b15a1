"""3.2: levels, threes and unlike orders; 0.2 to 0.5 for them; example e04."""

import unittest
from itertools import product

from evenorders.errors import NoWay
from evenorders.levels import is_unlike, levels, three, unlike
from evenorders.ways import chance, even
from evenorders.webs import Web
from tests.brute import BRUTE, SOME_WEBS, WAYS
from tests.common import ALMOST_LEVELS8, APART8, F, LEVELS8, N, ONE, ROW8, T, WITH_4704, WITH_5040
from tests.common import Case, strange

BEFORE8 = Web(8, ((6, 7),))


def are_levels(web, heights):
    """Whether those on one height are levels, one behind another."""
    for one, other in product(range(web.many), repeat=2):
        if ((one, other) in web.befores) != (heights[one] < heights[other]):
            return False
    return True


def brute_levels(web):
    for heights in product(range(web.many), repeat=web.many):
        if are_levels(web, heights):
            lots = [tuple(name for name in range(web.many) if heights[name] == height)
                    for height in range(web.many)]
            return tuple(lot for lot in lots if lot)
    return None


def brute_three(web):
    def ordered(one, other):
        return (one, other) in web.befores or (other, one) in web.befores

    found = [(x, z, y) for x, z, y in product(range(web.many), repeat=3)
             if (x, z) in web.befores and y not in (x, z)
             and not ordered(x, y) and not ordered(z, y)]
    return min(found, default=None)


class LevelsTest(Case):
    def test_e04(self):
        self.assert_same(three(T), (0, 2, 1))
        self.assert_same(levels(F), ((0,), (1, 2)))

    def test_levels(self):
        self.assert_same(levels(ONE), ((0,),))
        self.assert_same(levels(T), None)
        self.assert_same(levels(N), None)
        self.assert_same(levels(APART8), (tuple(range(8)),))
        self.assert_same(levels(ROW8), tuple((name,) for name in range(8)))
        self.assert_same(levels(LEVELS8), ((0, 1, 2, 3), (4, 5, 6, 7)))
        self.assert_same(levels(ALMOST_LEVELS8), None)
        self.assert_same(levels(Web(4, ((1, 3),))), None)
        self.assert_same(levels(Web(4, ((0, 2), (1, 3)))), None)
        self.assert_same(levels(Web(4, ((0, 3), (1, 0), (2, 0)))),
                         ((1, 2), (0,), (3,)))
        for web in SOME_WEBS:
            self.assert_same(levels(web), brute_levels(web))

    def test_three(self):
        self.assert_same(three(N), (0, 2, 3))
        self.assert_same(three(F), None)
        self.assert_same(three(ONE), None)
        self.assert_same(three(ROW8), None)
        self.assert_same(three(APART8), None)
        self.assert_same(three(LEVELS8), None)
        self.assert_same(three(ALMOST_LEVELS8), (0, 7, 3))
        self.assert_same(three(BEFORE8), (6, 7, 0))
        self.assert_same(three(Web(3, ((2, 0),))), (2, 0, 1))
        for web in SOME_WEBS:
            self.assert_same(three(web), brute_three(web))

    def test_the_first_fact(self):
        for web in [*SOME_WEBS, APART8, ROW8, LEVELS8, ALMOST_LEVELS8, BEFORE8]:
            for way in WAYS:
                self.assert_flag(levels(web) is not None, even(web, way))
            self.assert_flag(three(web) is None, even(web, "front"))


class UnlikeTest(Case):
    def test_unlike(self):
        for (at, way), found in BRUTE.items():
            pair = unlike(SOME_WEBS[at], way)
            if len(set(found.values())) == 1:
                self.assertIsNone(pair)
            else:
                one, other = pair
                self.assertIs(type(pair), tuple)
                self.assertNotEqual(found[one], found[other])
                self.assert_flag(is_unlike(SOME_WEBS[at], way, pair), True)

    def test_unlike_of_eight_names(self):
        for way in WAYS:
            for web in (ONE, APART8, ROW8, LEVELS8, WITH_5040):
                self.assert_same(unlike(web, way), None)
            for web in (BEFORE8, ALMOST_LEVELS8, WITH_4704):
                one, other = unlike(web, way)
                self.assertNotEqual(chance(web, way, one), chance(web, way, other))
                self.assert_flag(is_unlike(web, way, (one, other)), True)
                self.assert_same(unlike(web, way), (one, other))

    def test_is_unlike(self):
        for (at, way), found in BRUTE.items():
            if len(found) < 20:
                for one, other in product(found, repeat=2):
                    self.assert_flag(is_unlike(SOME_WEBS[at], way, (one, other)),
                                     found[one] != found[other])

    def test_is_unlike_with_one_thing_changed(self):
        right = ((0, 1, 2), (1, 0, 2))
        self.assert_flag(is_unlike(T, "front", right), True)
        self.assert_flag(is_unlike(T, "front", right[::-1]), True)
        self.assert_flag(is_unlike(T, "back", right), False)
        self.assert_flag(is_unlike(T, "numbers", ((0, 1, 2), (0, 2, 1))), True)
        self.assert_flag(is_unlike(T, "front", ((0, 1, 2), (0, 2, 1))), False)
        for thing in [list(right), right[:1], (*right, (0, 2, 1)), ([0, 1, 2], (1, 0, 2)),
                      ((0, 1, 2), [1, 0, 2]), ((0, 1, 2), (1, False, 2)), ((0, True, 2), (1, 0, 2)),
                      ((0, 1), (1, 0, 2)), ((0, 1, 2), (2, 0, 1)), ((2, 1, 0), (1, 0, 2)),
                      ((0, 1, 3), (1, 0, 2)), ((0, 1, 1), (1, 0, 2)), {0: right[0], 1: right[1]}]:
            self.assert_flag(is_unlike(T, "front", thing), False)

    def test_strange_things(self):
        for thing in strange():
            for way in WAYS:
                self.assert_flag(is_unlike(T, way, thing), False)
                self.assert_flag(is_unlike(T, way, ((0, 1, 2), thing)), False)
                self.assert_flag(is_unlike(T, way, (thing, (1, 0, 2))), False)

    def test_no_way(self):
        for thing in [*strange(), "FRONT", "fron", ("front",), ["front"]]:
            self.assert_refused(NoWay, {}, unlike, T, thing)
            self.assert_refused(NoWay, {}, unlike, ONE, thing)
            self.assert_refused(NoWay, {}, is_unlike, T, thing, ((0, 1, 2), (1, 0, 2)))
            self.assert_refused(NoWay, {}, is_unlike, T, thing, None)


if __name__ == "__main__":
    unittest.main()
