"""gap_unevenness and nearest_calling of 5.2; 0.2 to 0.5 for them."""

import unittest
from fractions import Fraction
from itertools import permutations

from evenorders.callings import calling
from evenorders.errors import NoCalling, TooMany
from evenorders.nearest import gap_unevenness, nearest_calling
from evenorders.webs import Web
from tests.brute import pair_of
from tests.common import APART8, F, FEW_WEBS, GREATER_WEBS, N, ONE, ROW8, T, WITH_4704, WITH_5040
from tests.common import Case, strange_but
from tests.rows import brute_gap_chances

ROW = tuple(range(8))
# Of 5 names, one with an N and one with two pairs, so that no calling is even.
FIVES = [Web(5, ((0, 2), (1, 2), (1, 3))), Web(5, ((3, 1), (4, 2)))]


def brute_unevenness(web, called):
    chances = brute_gap_chances(web, called).values()
    return sum(abs(share - Fraction(1, len(chances))) for share in chances) / 2


class NearestTest(Case):
    def test_gap_unevenness(self):
        self.assert_same(gap_unevenness(T, (0, 2, 1)), (0, 1))
        self.assert_same(gap_unevenness(T, (0, 1, 2)), (1, 6))
        self.assert_same(gap_unevenness(ONE, (0,)), (0, 1))
        self.assert_same(gap_unevenness(ROW8, ROW[::-1]), (0, 1))
        for web in FEW_WEBS[::3]:
            for called in permutations(range(web.many)):
                self.assert_same(gap_unevenness(web, called),
                                 pair_of(brute_unevenness(web, called)))
        for web in GREATER_WEBS:
            for called in list(permutations(range(web.many)))[::61]:
                self.assert_same(gap_unevenness(web, called),
                                 pair_of(brute_unevenness(web, called)))

    def test_many_orders(self):
        top, bottom = gap_unevenness(WITH_4704, ROW)
        self.assertEqual(Fraction(top, bottom), brute_unevenness(WITH_4704, ROW))

    def test_nearest_calling(self):
        self.assert_same(nearest_calling(T), ((0, 1), (0, 2, 1)))
        self.assert_same(nearest_calling(ONE), ((0, 1), (0,)))
        self.assert_same(nearest_calling(F), ((0, 1), (0, 1, 2)))
        self.assert_same(nearest_calling(Web(5, ())), ((0, 1), (0, 1, 2, 3, 4)))
        for web in [*FEW_WEBS[::4], *FIVES]:
            share, called = min((brute_unevenness(web, called), called)
                                for called in permutations(range(web.many)))
            self.assert_same(nearest_calling(web), (pair_of(share), called))

    def test_an_even_calling_is_near(self):
        for web in FEW_WEBS:
            if calling(web) is not None:
                self.assertEqual(nearest_calling(web)[0], (0, 1))
        for web in [N, *FIVES]:
            self.assertGreater(nearest_calling(web)[0][0], 0)


class WrongNearestTest(Case):
    def test_no_calling(self):
        for thing in [*strange_but((2, 1, 0)), (), (0, 1), (0, 1, 1), [0, 1, 2], (0, 1, 2, 2),
                      (0, 1, 3), (False, 1, 2), (0, True, 2), "012"]:
            self.assert_refused(NoCalling, {}, gap_unevenness, T, thing)

    def test_too_many(self):
        self.assert_refused(TooMany, {"most": 5000}, gap_unevenness, WITH_5040, (6, 5, 4, 3, 2, 1, 0))
        self.assert_refused(TooMany, {"most": 5000}, gap_unevenness, APART8, ROW)
        for web in [Web(6, ()), Web(6, ((0, 1),)), ROW8, APART8]:
            self.assert_refused(TooMany, {"most": 5}, nearest_calling, web)

    def test_which_error_comes_first(self):
        self.assert_refused(NoCalling, {}, gap_unevenness, APART8, ROW[1:])


if __name__ == "__main__":
    unittest.main()
