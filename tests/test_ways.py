"""3.1, even of 3.2, 3.3 and 11.2: ways of drawing; 0.2 to 0.5 for them; example e03."""

import unittest
from fractions import Fraction
from itertools import permutations
from math import factorial

from evenorders.errors import NoLot, NoOrder, NoWay, TooMany
from evenorders.orders import count, orders
from evenorders.ways import chance, chances, even, likeliest, number_rows, numbers_web
from evenorders.ways import still_even, unlikeliest
from evenorders.webs import Web
from tests.brute import BRUTE, SOME_WEBS, WAYS, drawn_by_numbers, pair_of
from tests.common import ALMOST_LEVELS8, APART8, FEW_WEBS, GREATER_WEBS, LEVELS8, N, ONE, ROW8, T, F
from tests.common import WITH_4704, WITH_5040
from tests.common import Case, brute_lots, strange


class ChancesTest(Case):
    def test_e03(self):
        self.assert_same([chance(T, "front", order) for order in orders(T)],
                         [(1, 4), (1, 4), (1, 2)])
        self.assert_same([chance(T, "numbers", order) for order in orders(T)],
                         [(1, 6), (1, 3), (1, 2)])

    def test_chances_of_all_ways(self):
        for (at, way), found in BRUTE.items():
            self.assertEqual(sum(found.values()), 1)
            self.assert_same(chances(SOME_WEBS[at], way),
                             {order: pair_of(found[order]) for order in found})
            for order in found:
                self.assert_same(chance(SOME_WEBS[at], way, order), pair_of(found[order]))

    def test_one_name_and_eight(self):
        for way in WAYS:
            self.assert_same(chances(ONE, way), {(0,): (1, 1)})
            self.assert_same(chances(ROW8, way), {tuple(range(8)): (1, 1)})
            self.assert_same(chance(APART8, way, tuple(range(7, -1, -1))), (1, 40320))
        self.assert_same(chance(Web(8, ((6, 7),)), "back", (6, 0, 1, 2, 3, 4, 5, 7)), (1, 5040 * 7))

    def test_many_orders(self):
        for way in WAYS:
            found = chances(WITH_4704, way)
            self.assertEqual(list(sorted(found)), orders(WITH_4704))
            self.assertEqual(sum(Fraction(*found[order]) for order in found), 1)

    def test_number_rows_and_their_web(self):
        self.assert_same([number_rows(T, order) for order in orders(T)], [1, 2, 3])
        self.assert_same(number_rows(ROW8, tuple(range(8))), 40320)
        self.assert_same(number_rows(APART8, tuple(range(8))), 1)
        self.assert_same(numbers_web(T, (0, 2, 1)), Web(3, ((0, 1), (2, 1))))
        self.assert_same(numbers_web(T, (1, 0, 2)), Web(3, ((1, 0),)))
        self.assert_same(numbers_web(ROW8, tuple(range(8))), APART8)
        self.assert_same(numbers_web(ONE, (0,)), ONE)
        for at, web in enumerate(SOME_WEBS):
            for order, found in BRUTE[at, "numbers"].items():
                drawing = int(found * factorial(web.many))
                self.assert_same(number_rows(web, order), drawing)
                self.assert_same(count(numbers_web(web, order)), drawing)

    def test_orders_of_numbers_web_draw_the_order(self):
        for web in FEW_WEBS[::5] + GREATER_WEBS[:4]:
            for order in orders(web):
                found = []
                for row in permutations(range(web.many)):
                    numbers = [row.index(name) for name in range(web.many)]
                    if drawn_by_numbers(web, numbers) == order:
                        found.append(row)
                self.assertEqual(orders(numbers_web(web, order)), found)

    def test_likeliest_and_unlikeliest(self):
        self.assert_same(likeliest(T, "front"), ((1, 2), (1, 0, 2)))
        self.assert_same(unlikeliest(T, "front"), ((1, 4), (0, 1, 2)))
        self.assert_same(unlikeliest(T, "back"), ((1, 4), (0, 1, 2)))
        self.assert_same(likeliest(F, "numbers"), ((1, 2), (0, 1, 2)))
        self.assert_same(likeliest(ONE, "back"), ((1, 1), (0,)))
        for (at, way), found in BRUTE.items():
            most, least = max(found.values()), min(found.values())
            self.assert_same(likeliest(SOME_WEBS[at], way), (
                pair_of(most), min(order for order in found if found[order] == most)))
            self.assert_same(unlikeliest(SOME_WEBS[at], way), (
                pair_of(least), min(order for order in found if found[order] == least)))


class EvenTest(Case):
    def test_even(self):
        for way in WAYS:
            self.assert_flag(even(T, way), False)
            self.assert_flag(even(N, way), False)
            self.assert_flag(even(F, way), True)
            for web in (ONE, ROW8, APART8, LEVELS8):
                self.assert_flag(even(web, way), True)
            self.assert_flag(even(ALMOST_LEVELS8, way), False)
            self.assert_flag(even(Web(8, ((6, 7),)), way), False)

    def test_even_is_all_alike_likely(self):
        for (at, way), found in BRUTE.items():
            self.assert_flag(even(SOME_WEBS[at], way), len(set(found.values())) == 1)

    def test_still_even(self):
        self.assert_flag(still_even(T, "front", (0,)), True)
        self.assert_flag(still_even(T, "front", (1,)), True)
        self.assert_flag(still_even(T, "front", ()), False)
        self.assert_flag(still_even(T, "numbers", (0,)), False)
        self.assert_flag(still_even(T, "front", (0, 1, 2)), False)
        self.assert_flag(still_even(T, "front", (0, 1)), False)
        self.assert_flag(still_even(T, "numbers", (0, 2)), True)
        self.assert_flag(still_even(ROW8, "back", tuple(range(8))), True)
        for (at, way), found in BRUTE.items():
            for lot in brute_lots(SOME_WEBS[at]):
                here = {found[order] for order in found
                        if tuple(sorted(order[:len(lot)])) == lot}
                self.assert_flag(still_even(SOME_WEBS[at], way, lot), len(here) == 1)


class WrongWaysTest(Case):
    def test_no_way(self):
        for thing in [*strange(), (), "FRONT", "front\n", "number", "f", ("front",), ["back"]]:
            for function in (chances, even, likeliest, unlikeliest):
                self.assert_refused(NoWay, {}, function, T, thing)
            self.assert_refused(NoWay, {}, chance, T, thing, (0, 1, 2))
            self.assert_refused(NoWay, {}, still_even, T, thing, ())

    def test_no_order(self):
        for thing in [*strange(), (), (2, 1, 0), [0, 1, 2], (0, 1), (0, True, 2), (0, 0, 2)]:
            for way in WAYS:
                self.assert_refused(NoOrder, {}, chance, T, way, thing)
            self.assert_refused(NoOrder, {}, number_rows, T, thing)
            self.assert_refused(NoOrder, {}, numbers_web, T, thing)

    def test_no_lot(self):
        for thing in [*strange(), (2,), (1, 2), [0], (1, 0), (0, 0), (False,)]:
            for way in WAYS:
                self.assert_refused(NoLot, {}, still_even, T, way, thing)

    def test_too_many(self):
        for web in (WITH_5040, APART8):
            for way in WAYS:
                for function in (chances, likeliest, unlikeliest):
                    self.assert_refused(TooMany, {"most": 5000}, function, web, way)
                self.assert_refused(TooMany, {"most": 5000}, still_even, web, way, (0, 1, 2, 3, 4))

    def test_which_error_comes_first(self):
        self.assert_refused(NoWay, {}, chance, T, "side", (2, 1, 0))
        for function in (chances, likeliest, unlikeliest):
            self.assert_refused(NoWay, {}, function, APART8, "side")
        self.assert_refused(NoWay, {}, still_even, APART8, "side", (0, 0))
        self.assert_refused(NoLot, {}, still_even, APART8, "front", (0, 0))

    def test_dicts_are_new(self):
        for way in WAYS:
            self.assert_new(chances, N, way)


if __name__ == "__main__":
    unittest.main()
