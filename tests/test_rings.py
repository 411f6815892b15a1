"""7.2: rings; 0.2 to 0.5 for them."""

import unittest
from fractions import Fraction
from itertools import combinations, permutations, product

from evenorders.rings import is_ring, ring
from evenorders.tickets import tickets
from evenorders.webs import Web
from tests.brute import free
from tests.common import ALMOST_LEVELS8, APART8, F, FEW_WEBS, GREATER_WEBS, LEVELS8, N, ONE, ROW8, T
from tests.common import WITH_200, Case, brute_lots, brute_orders, strange

VEE = Web(4, ((0, 3), (1, 3)))
VEE_RING = [((1,), 0, 2), ((), 2, 1), ((), 1, 0)]
# Webs of which the names of rings found stand in many ways to one another.
MORE = [Web(5, ((1, 0), (1, 4), (2, 0), (4, 0))), Web(5, ((0, 1), (4, 1), (4, 2))),
        Web(5, ((1, 0), (1, 2), (2, 0), (4, 0), (4, 3))), Web(6, ((1, 3), (2, 3), (2, 4), (5, 3))),
        Web(6, ((0, 2), (1, 0), (1, 2), (1, 5), (4, 2)))]
# A web of which two triples are a ring.
TWO = Web(5, ((0, 3), (0, 4), (1, 4)))
TWO_RING = [((0, 3), 1, 2), ((), 2, 1)]


def brute_rests(web):
    """For each closed lot the number of ways to go on, from all orders."""
    found = {}
    for lot in brute_lots(web):
        behind = {order[len(lot):] for order in brute_orders(web)
                  if tuple(sorted(order[:len(lot)])) == lot}
        found[lot] = len(behind)
    return found


def links(web):
    """All triples of a closed lot and two unlike names that may come behind it."""
    found = []
    for lot in brute_lots(web):
        left = [name for name in range(web.many) if name not in lot]
        found += [(lot, one, other) for one, other in permutations(free(web, left, False), 2)]
    return found


def multiplied(web, triples):
    rests = brute_rests(web)
    found = Fraction(1)
    for lot, one, other in triples:
        found *= Fraction(rests[tuple(sorted((*lot, one)))], rests[tuple(sorted((*lot, other)))])
    return found


class RingTest(Case):
    def test_by_hand(self):
        for triples in (VEE_RING, [((1,), 0, 2), ((), 2, 0)], [((1,), 0, 2), ((1,), 2, 0)]):
            self.assert_flag(is_ring(VEE, triples), multiplied(VEE, triples) != 1)
        self.assert_flag(is_ring(VEE, VEE_RING), True)
        self.assert_flag(is_ring(TWO, TWO_RING), True)
        for web in (ONE, T, F, N, APART8, ROW8, LEVELS8):
            self.assert_same(ring(web), None)

    def test_ring(self):
        for web in FEW_WEBS + GREATER_WEBS + MORE + [TWO, ALMOST_LEVELS8, WITH_200]:
            found = ring(web)
            self.assert_flag(found is None, tickets(web) is not None)
            if found is not None:
                self.assertIs(type(found), list)
                self.assertGreaterEqual(len(found), 2)
                self.assert_flag(is_ring(web, found), True)
                self.assert_new(ring, web)
                if web.many < 7:
                    self.assertLessEqual(set(found), set(links(web)))
                    self.assertNotEqual(multiplied(web, found), 1)
                for at, (_, one, _) in enumerate(found):
                    self.assertEqual(found[at - 1][2], one)

    def test_rings_of_two_and_three(self):
        for web in [VEE, TWO, T, N, Web(3, ())]:
            triples = links(web)
            for one, other in product(triples, repeat=2):
                hang = one[2] == other[1] and other[2] == one[1]
                self.assert_flag(is_ring(web, [one, other]),
                                 hang and multiplied(web, [one, other]) != 1)
        for web in [VEE, T, N, Web(3, ())]:
            for three in product(links(web), repeat=3):
                if all(three[at - 1][2] == three[at][1] for at in range(3)):
                    self.assert_flag(is_ring(web, list(three)), multiplied(web, three) != 1)

    def test_begun_elsewhere_turned_about_and_gone_round_twice(self):
        for web in [VEE, TWO, ALMOST_LEVELS8, WITH_200, GREATER_WEBS[3]]:
            found = ring(web)
            for at in range(len(found)):
                self.assert_flag(is_ring(web, [*found[at:], *found[:at]]), True)
            about = [(lot, other, one) for lot, one, other in found[::-1]]
            self.assert_flag(is_ring(web, about), True)
            self.assert_flag(is_ring(web, found + found), True)
            self.assert_flag(is_ring(web, found * 400), True)
            # There and back again, the fractions are one.
            self.assert_flag(is_ring(web, found + [about[-1], *about[:-1]]), False)
            self.assert_flag(is_ring(web, found + about), False)


class NoRingTest(Case):
    def test_one_thing_changed(self):
        self.assert_flag(is_ring(VEE, VEE_RING), True)
        first, second, third = VEE_RING
        for thing in [tuple(VEE_RING), [], VEE_RING[:1], VEE_RING[:2], VEE_RING[1:],
                      [*VEE_RING, None], [*VEE_RING, ()], [second, first, third],
                      [((), 0, 2), second, third], [((1, 2), 0, 2), second, third],
                      [((3,), 0, 2), second, third], [((1, 3), 0, 2), second, third],
                      [([1], 0, 2), second, third], [((True,), 0, 2), second, third],
                      [((1, 1), 0, 2), second, third], [((4,), 0, 2), second, third],
                      [(None, 0, 2), second, third], [(1, 0, 2), second, third],
                      [((1,), 0, 0), second, third], [((1,), 0, 3), second, third],
                      [((1,), 0, 1), second, third], [((1,), 2, 0), second, third],
                      [((1,), False, 2), second, third], [((1,), 0, 2), second, ((), True, 0)],
                      [((1,), 0, 2), second, ((), 1, False)], [((1,), 0, "2"), second, third],
                      [list(first), second, third], [first[:2], second, third],
                      [(*first, 0), second, third], [first, second, third, ((), 0, 1)],
                      [((0,), 0, 2), second, third], [((0, 1), 0, 2), second, third],
                      [((2,), 0, 2), second, third], [first, ((1,), 2, 1), third],
                      [*VEE_RING, ((), 0, 0)], [*VEE_RING, ((1,), 0, 0)], [((), 0, 0)] * 2,
                      [first, second, ((), 1, 4)], [first, second, ((), -1, 0)],
                      {0: first, 1: second, 2: third}]:
            self.assert_flag(is_ring(VEE, thing), False)

    def test_no_lot_that_may_be_gone_on_from(self):
        web = Web(4, ((0, 2), (1, 2), (1, 3)))
        self.assert_flag(is_ring(web, [((2,), 0, 1), ((), 1, 0)]), False)
        self.assert_flag(is_ring(web, [((0,), 1, 2), ((), 2, 1)]), False)
        self.assert_flag(is_ring(web, [((0, 1, 2, 3), 0, 1), ((), 1, 0)]), False)

    def test_no_ring_where_there_are_tickets(self):
        for web in [F, T, N, LEVELS8, Web(3, ())]:
            for lot, one, other in links(web) if web.many < 8 else [((), 0, 1)]:
                self.assert_flag(is_ring(web, [(lot, one, other), (lot, other, one)]), False)
        self.assert_flag(is_ring(Web(3, ()), [((), 0, 1), ((), 1, 2), ((), 2, 0)]), False)
        for one, other in combinations(range(8), 2):
            self.assert_flag(is_ring(APART8, [((), one, other), ((), other, one)]), False)

    def test_strange_things(self):
        for thing in strange():
            self.assert_flag(is_ring(T, thing), False)
            self.assert_flag(is_ring(VEE, [thing, *VEE_RING[1:]]), False)
            self.assert_flag(is_ring(VEE, [*VEE_RING, thing]), False)
            self.assert_flag(is_ring(VEE, [(thing, 0, 2), *VEE_RING[1:]]), False)
            self.assert_flag(is_ring(VEE, [((1,), thing, 2), *VEE_RING[1:]]), False)
            self.assert_flag(is_ring(VEE, [((1,), 0, thing), *VEE_RING[1:]]), False)


if __name__ == "__main__":
    unittest.main()
