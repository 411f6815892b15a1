"""7.1 and 7.3: tickets, forests and hooks; 0.2 to 0.5 for them; example e08."""

import unittest
from fractions import Fraction
from itertools import product
from math import factorial, prod

from evenorders.errors import NoOrder, NoTickets
from evenorders.orders import count
from evenorders.rings import ring
from evenorders.tickets import even_tickets, hooks, is_forest, ticket_chance, tickets
from evenorders.webs import Web
from tests.brute import free, pair_of
from tests.common import ALMOST_LEVELS8, APART8, F, FEW_WEBS, GREATER_WEBS, LEVELS8, N, ONE, ROW8, T
from tests.common import Case, brute_orders, strange

MOST = 10 ** 40
VEE = Web(4, ((0, 3), (1, 3)))
FORESTS = [ONE, F, ROW8, APART8, Web(8, ((0, 7),)), Web(8, ((7, 0), (7, 1))),
           Web(8, ((0, 1), (0, 2), (1, 3), (1, 4), (5, 6), (6, 7)))]


def brute_ticket_chance(web, given, order):
    found = Fraction(1)
    for at, name in enumerate(order):
        found *= Fraction(given[name], sum(given[other] for other in free(web, order[at:], False)))
    return found


def brute_is_even(web, given):
    chances = {brute_ticket_chance(web, given, order) for order in brute_orders(web)}
    return len(chances) == 1


def brute_tickets(web, most):
    """The least tickets, none greater than most, by which all orders are alike likely."""
    for given in product(range(1, most + 1), repeat=web.many):
        if brute_is_even(web, given):
            return given
    return None


def some_tickets(many):
    return [(1,) * many, tuple(range(1, many + 1)), tuple(range(many, 0, -1)),
            (MOST,) + (1,) * (many - 1), (7,) * many, (2, 3, 1, 1, 5, 5, 2, 9)[:many]]


class TicketsTest(Case):
    def test_e08(self):
        self.assert_same(tickets(N), (2, 3, 1, 1))
        self.assert_same(hooks(F), (3, 1, 1))

    def test_ticket_chance(self):
        self.assert_same(ticket_chance(T, (2, 1, 1), (1, 0, 2)), (1, 3))
        self.assert_same(ticket_chance(T, (2, 1, 3), (0, 2, 1)), (1, 2))
        self.assert_same(ticket_chance(ONE, (5,), (0,)), (1, 1))
        self.assert_same(ticket_chance(ROW8, (MOST,) * 8, tuple(range(8))), (1, 1))
        self.assert_same(ticket_chance(APART8, (MOST,) * 8, tuple(range(8))), (1, 40320))
        self.assert_same(ticket_chance(Web(2, ()), (1, MOST), (0, 1)), (1, MOST + 1))
        self.assert_same(ticket_chance(Web(2, ()), (1, MOST), (1, 0)), (MOST, MOST + 1))
        for web in FEW_WEBS + GREATER_WEBS[1:6]:
            for given in some_tickets(web.many):
                for order in brute_orders(web):
                    self.assert_same(ticket_chance(web, given, order),
                                     pair_of(brute_ticket_chance(web, given, order)))

    def test_even_tickets(self):
        self.assert_flag(even_tickets(T, (2, 1, 1)), True)
        self.assert_flag(even_tickets(T, (2, 1, 2)), False)
        self.assert_flag(even_tickets(T, (MOST, MOST // 2, MOST // 2)), True)
        self.assert_flag(even_tickets(T, (MOST, MOST // 2, MOST // 2 + 1)), False)
        self.assert_flag(even_tickets(ONE, (MOST,)), True)
        self.assert_flag(even_tickets(ROW8, (3, 1, 4, 1, 5, 9, 2, 6)), True)
        self.assert_flag(even_tickets(APART8, (3,) * 8), True)
        self.assert_flag(even_tickets(APART8, (3,) * 7 + (4,)), False)
        self.assert_flag(even_tickets(LEVELS8, (3,) * 4 + (4,) * 4), True)
        for web in FEW_WEBS:
            for given in [*some_tickets(web.many), hooks(web)]:
                self.assert_flag(even_tickets(web, given), brute_is_even(web, given))

    def test_tickets(self):
        self.assert_same(tickets(T), (2, 1, 1))
        self.assert_same(tickets(ONE), (1,))
        self.assert_same(tickets(ROW8), (1,) * 8)
        self.assert_same(tickets(APART8), (1,) * 8)
        self.assert_same(tickets(LEVELS8), (1,) * 8)
        self.assert_same(tickets(ALMOST_LEVELS8), None)
        self.assert_same(tickets(VEE), None)
        self.assert_same(tickets(Web(8, ((0, 7),))), (2,) + (1,) * 7)
        five = Web(5, ((0, 2), (0, 3), (0, 4), (1, 4)))
        self.assert_same(tickets(five), (4, 2, 1, 1, 1))
        self.assert_same(brute_tickets(five, 4), (4, 2, 1, 1, 1))
        for web in [web for web in FEW_WEBS if web.many < 4] + FEW_WEBS[40::5]:
            self.assert_same(tickets(web), brute_tickets(web, 4))

    def test_whether_there_are_tickets(self):
        for web in FEW_WEBS + GREATER_WEBS:
            found = tickets(web)
            self.assert_flag(found is None, ring(web) is not None)
            if found is not None:
                self.assertTrue(brute_is_even(web, found))
                self.assert_flag(even_tickets(web, found), True)

    def test_no_tickets(self):
        for thing in [*strange(), (), (1, 1), (1, 1, 1, 1), [2, 1, 1], (0, 1, 1), (2, 1, -1),
                      (2, 1, MOST + 1), (MOST + 1, 1, 1), (True, 1, 1), (2, 1, "1"), (2, 1, None),
                      (2, 1, (1,)), ((2, 1, 1),), {0: 2, 1: 1, 2: 1}, "211"]:
            self.assert_refused(NoTickets, {}, ticket_chance, T, thing, (0, 1, 2))
            self.assert_refused(NoTickets, {}, even_tickets, T, thing)

    def test_no_order(self):
        for thing in [*strange(), (), (2, 1, 0), [0, 1, 2], (0, True, 2), (0, 1), (0, 1, 2, 3)]:
            self.assert_refused(NoOrder, {}, ticket_chance, T, (2, 1, 1), thing)

    def test_which_error_comes_first(self):
        self.assert_refused(NoTickets, {}, ticket_chance, T, (2, 1), (2, 1, 0))
        self.assert_refused(NoTickets, {}, ticket_chance, T, None, None)


class ForestsTest(Case):
    def test_is_forest(self):
        for web in FORESTS:
            self.assert_flag(is_forest(web), True)
        for web in [N, VEE, LEVELS8, ALMOST_LEVELS8, Web(3, ((0, 2), (1, 2)))]:
            self.assert_flag(is_forest(web), False)
        self.assert_flag(is_forest(Web(3, ((0, 1), (1, 2)))), True)
        self.assert_flag(is_forest(Web(4, ((0, 1), (0, 2), (1, 3), (2, 3)))), False)
        for web in FEW_WEBS:
            ahead = [[one for one, other in web.befores if other == name]
                     for name in range(web.many)]
            self.assert_flag(is_forest(web), all(
                (one, other) in web.befores or (other, one) in web.befores
                for lot in ahead for one in lot for other in lot if one < other))

    def test_hooks(self):
        self.assert_same(hooks(ONE), (1,))
        self.assert_same(hooks(T), (2, 1, 1))
        self.assert_same(hooks(N), (2, 3, 1, 1))
        self.assert_same(hooks(ROW8), (8, 7, 6, 5, 4, 3, 2, 1))
        self.assert_same(hooks(APART8), (1,) * 8)
        for web in FEW_WEBS:
            self.assert_same(hooks(web), tuple(1 + len([1 for one, _ in web.befores if one == name])
                                               for name in range(web.many)))

    def test_the_fifth_fact(self):
        for web in FORESTS + [web for web in FEW_WEBS + GREATER_WEBS if is_forest(web)]:
            self.assert_flag(even_tickets(web, hooks(web)), True)
            self.assertEqual(count(web) * prod(hooks(web)), factorial(web.many))


if __name__ == "__main__":
    unittest.main()
