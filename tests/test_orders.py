"""2.1: orders; 0.3, 0.4 for them; example e02."""

import unittest
from itertools import permutations

from evenorders.errors import NoLot, NoNumber, NoOrder, TooMany
from evenorders.orders import count, is_order, order_at, order_number, orders, rest
from evenorders.webs import Web
from tests.common import APART8, FEW_WEBS, GREATER_WEBS, N, ONE, ROW8, T
from tests.common import WITH_4704, WITH_5040
from tests.common import Case, brute_lots, brute_orders, strange


class OrdersTest(Case):
    def test_e02(self):
        self.assert_same(orders(T), [(0, 1, 2), (0, 2, 1), (1, 0, 2)])
        self.assert_same(count(N), 5)

    def test_orders_and_their_number(self):
        for web in FEW_WEBS + GREATER_WEBS:
            self.assert_same(orders(web), brute_orders(web))
            self.assert_same(count(web), len(brute_orders(web)))
        self.assert_same(orders(ONE), [(0,)])
        self.assert_same(orders(ROW8), [tuple(range(8))])
        self.assert_same(count(APART8), 40320)

    def test_is_order(self):
        for web in FEW_WEBS:
            found = brute_orders(web)
            for row in permutations(range(web.many)):
                self.assert_flag(is_order(web, row), row in found)
        self.assert_flag(is_order(APART8, tuple(range(7, -1, -1))), True)
        self.assert_flag(is_order(ROW8, tuple(range(7, -1, -1))), False)

    def test_is_no_order(self):
        for thing in [*strange(), ()]:
            self.assert_flag(is_order(T, thing), False)
        for thing in [[0, 1, 2], (0, 1), (0, 1, 2, 3), (0, 0, 2), (0, True, 2), (False, 1, 2),
                      (0, 1, 3), (-1, 0, 1), (0, 1, "2"), (0, 1, None), (0, 1, (2,))]:
            self.assert_flag(is_order(T, thing), False)
        self.assert_flag(is_order(ONE, (False,)), False)

    def test_many_orders(self):
        self.assertEqual(len(orders(WITH_4704)), 4704)
        self.assert_same(orders(WITH_4704), sorted(orders(WITH_4704)))
        self.assert_refused(TooMany, {"most": 5000}, orders, WITH_5040)
        self.assert_refused(TooMany, {"most": 5000}, orders, APART8)

    def test_order_at_and_order_number(self):
        for web in FEW_WEBS + GREATER_WEBS:
            for number, order in enumerate(brute_orders(web)):
                self.assert_same(order_at(web, number), order)
                self.assert_same(order_number(web, order), number)

    def test_numbers_of_more_orders_than_are_listed(self):
        for number, row in enumerate(permutations(range(8))):
            if number % 997 == 0 or number == 40319:
                self.assert_same(order_at(APART8, number), row)
                self.assert_same(order_number(APART8, row), number)
        self.assert_same(order_at(APART8, 0), tuple(range(8)))
        self.assert_same(order_at(APART8, 40319), tuple(range(7, -1, -1)))

    def test_no_number(self):
        for thing in [*strange(), ()]:
            self.assert_refused(NoNumber, {}, order_at, T, thing)
        for number in (-1, 3, 10 ** 59):
            self.assert_refused(NoNumber, {}, order_at, T, number)
        self.assert_refused(NoNumber, {}, order_at, ONE, 1)
        self.assert_refused(NoNumber, {}, order_at, ONE, False)
        self.assert_refused(NoNumber, {}, order_at, APART8, 40320)

    def test_number_of_no_order(self):
        for thing in [*strange(), (), (2, 1, 0), [0, 1, 2], (0, 1), (0, 0, 2), (0, True, 2)]:
            self.assert_refused(NoOrder, {}, order_number, T, thing)

    def test_rest(self):
        self.assert_same(rest(T, (0,)), 2)
        self.assert_same(rest(T, (0, 1, 2)), 1)
        self.assert_same(rest(APART8, ()), 40320)
        for web in FEW_WEBS + GREATER_WEBS[:6]:
            found = brute_orders(web)
            for lot in brute_lots(web):
                ends = {row[len(lot):] for row in found if set(row[:len(lot)]) == set(lot)}
                self.assert_same(rest(web, lot), len(ends))

    def test_rest_of_no_lot(self):
        for thing in [*strange(), (2,), (1, 2), [0], (1, 0), (0, 0), (False,)]:
            self.assert_refused(NoLot, {}, rest, T, thing)

    def test_lists_are_new(self):
        self.assert_new(orders, N)


class EqualCallsTest(Case):
    def test_webs_that_are_equal_have_the_same_orders(self):
        self.assert_same(orders(Web(3, ((0, 1), (1, 2)))), orders(Web(3, ((0, 1), (0, 2), (1, 2)))))


if __name__ == "__main__":
    unittest.main()
