"""2.4: exchanges; 0.3, 0.4 for them."""

import unittest
from itertools import combinations

from evenorders.errors import NoOrder, TooMany
from evenorders.exchanging import exchanges, far, farthest, is_way_there, way_there
from evenorders.orders import count, orders
from evenorders.webs import Web
from tests.common import APART8, FEW_WEBS, GREATER_WEBS, N, ONE, ROW8, T, WITH_200, WITH_201
from tests.common import Case, brute_orders, exact, strange

MEDIUM_WEBS = FEW_WEBS[::3] + [web for web in GREATER_WEBS if count(web) <= 60]


def brute_exchanges(web, order):
    found = []
    for row in brute_orders(web):
        unlike = [at for at in range(web.many) if row[at] != order[at]]
        if len(unlike) == 2 and unlike[1] == unlike[0] + 1:
            found.append(row)
    return found


def brute_far(next_ones, one):
    """From one order the least numbers of exchanges to all, going out step by step."""
    steps = {one: 0}
    number = 0
    reached = [one]
    while reached:
        number += 1
        reached = {row for order in reached for row in next_ones[order] if row not in steps}
        steps.update({row: number for row in reached})
    return steps


class ExchangesTest(Case):
    def test_exchanges(self):
        self.assert_same(exchanges(T, (0, 1, 2)), [(0, 2, 1), (1, 0, 2)])
        self.assert_same(exchanges(ONE, (0,)), [])
        self.assert_same(exchanges(ROW8, tuple(range(8))), [])
        self.assertEqual(len(exchanges(APART8, tuple(range(8)))), 7)
        for web in MEDIUM_WEBS:
            for order in brute_orders(web):
                self.assert_same(exchanges(web, order), brute_exchanges(web, order))

    def test_far(self):
        self.assert_same(far(T, (0, 2, 1), (1, 0, 2)), 2)
        self.assert_same(far(T, (0, 2, 1), (0, 2, 1)), 0)
        self.assert_same(far(APART8, tuple(range(8)), tuple(range(7, -1, -1))), 28)
        for web in MEDIUM_WEBS:
            next_ones = {row: brute_exchanges(web, row) for row in brute_orders(web)}
            for one in next_ones:
                for other, number in brute_far(next_ones, one).items():
                    self.assert_same(far(web, one, other), number)

    def test_way_there(self):
        self.assert_same(way_there(T, (0, 2, 1), (1, 0, 2)), [(0, 2, 1), (0, 1, 2), (1, 0, 2)])
        self.assert_same(way_there(ONE, (0,), (0,)), [(0,)])
        for web in MEDIUM_WEBS:
            found = brute_orders(web)
            for one in found[::2]:
                for other in found:
                    way = way_there(web, one, other)
                    self.assertEqual(len(way), far(web, one, other) + 1)
                    self.assert_flag(is_way_there(web, one, other, way), True)

    def test_is_way_there(self):
        one, middle, other = (0, 2, 1), (0, 1, 2), (1, 0, 2)
        for thing in [[one, middle, other], [one, middle, one, middle, other],
                      [one, middle, other, middle, other]]:
            self.assert_flag(is_way_there(T, one, other, thing), True)
        self.assert_flag(is_way_there(T, one, one, [one]), True)
        self.assert_flag(is_way_there(T, one, one, [one, middle, one]), True)

    def test_is_no_way_there(self):
        one, middle, other = (0, 2, 1), (0, 1, 2), (1, 0, 2)
        for thing in [
            [], [one], [other], [one, other], [other, middle, one], [one, middle],
            [middle, other], [one, middle, middle, other], (one, middle, other),
            [list(one), middle, other], [one, list(middle), other], [one, (0, True, 2), other],
            [one, (False, 1, 2), other], [one, middle, (1, False, 2)], [one, (0, 1), other],
            [one, (2, 0, 1), (0, 2, 1), middle, other], [one, (1, 2, 0), other],
            [one, middle, other, other], [one, one, middle, other], one,
        ]:
            self.assert_flag(is_way_there(T, one, other, thing), False)
        self.assert_flag(is_way_there(T, one, one, [one, one]), False)
        self.assert_flag(is_way_there(T, one, one, []), False)
        for thing in [*strange(), ()]:
            self.assert_flag(is_way_there(T, one, other, thing), False)
            self.assert_flag(is_way_there(T, one, other, [one, thing, other]), False)
            self.assert_flag(is_way_there(T, one, other, [thing]), False)

    def test_no_order(self):
        order = (0, 1, 2)
        for thing in [*strange(), (), (2, 1, 0), [0, 1, 2], (0, 1), (0, True, 2), (0, 0, 2)]:
            self.assert_refused(NoOrder, {}, exchanges, T, thing)
            self.assert_refused(NoOrder, {}, far, T, thing, order)
            self.assert_refused(NoOrder, {}, far, T, order, thing)
            self.assert_refused(NoOrder, {}, way_there, T, thing, order)
            self.assert_refused(NoOrder, {}, way_there, T, order, thing)
            self.assert_refused(NoOrder, {}, is_way_there, T, thing, order, [order])
            self.assert_refused(NoOrder, {}, is_way_there, T, order, thing, None)

    def test_farthest(self):
        self.assert_same(farthest(ONE), (0, (0,), (0,)))
        self.assert_same(farthest(ROW8), (0, tuple(range(8)), tuple(range(8))))
        self.assert_same(farthest(T), (2, (0, 2, 1), (1, 0, 2)))
        self.assert_same(farthest(Web(5, ())), (10, (0, 1, 2, 3, 4), (4, 3, 2, 1, 0)))
        for web in MEDIUM_WEBS:
            found = brute_orders(web)
            number, one, other = min((-far(web, one, other), one, other)
                                     for one in found for other in found)
            self.assert_same(farthest(web), (-number, one, other))

    def test_farthest_of_many_orders(self):
        self.assertEqual([count(WITH_200), count(WITH_201)], [200, 201])
        found = orders(WITH_200)
        number, one, other = min((-far(WITH_200, one, other), one, other)
                                 for one, other in combinations(found, 2))
        self.assert_same(farthest(WITH_200), (-number, one, other))
        for web in [WITH_201, APART8, Web(6, ())]:
            self.assert_refused(TooMany, {"most": 200}, farthest, web)

    def test_lists_are_new_and_what_is_judged_stays(self):
        self.assert_new(exchanges, N, (0, 1, 2, 3))
        self.assert_new(way_there, N, (0, 1, 2, 3), (1, 3, 0, 2))
        thing = way_there(N, (0, 1, 2, 3), (1, 3, 0, 2))
        kept = exact(thing)
        is_way_there(N, (0, 1, 2, 3), (1, 3, 0, 2), thing)
        self.assertEqual(exact(thing), kept)


if __name__ == "__main__":
    unittest.main()
