"""2.2: shares in the even draw; 0.2, 0.3, 0.4 for them."""

import unittest
from fractions import Fraction

from evenorders.errors import NoLot, NoName, NoPlace
from evenorders.shares import ahead_share, mean_place, next_shares, place_share
from tests.common import APART8, FEW_WEBS, GREATER_WEBS, N, ONE, ROW8, T
from tests.common import Case, brute_lots, brute_orders, strange


def lowest(top, bottom):
    found = Fraction(top, bottom)
    return (found.numerator, found.denominator)


class SharesTest(Case):
    def test_place_share(self):
        self.assert_same(place_share(T, 0, 0), (2, 3))
        self.assert_same(place_share(T, 0, 2), (0, 1))
        self.assert_same(place_share(APART8, 7, 7), (1, 8))
        self.assert_same(place_share(ROW8, 7, 7), (1, 1))
        self.assert_same(place_share(ONE, 0, 0), (1, 1))
        for web in FEW_WEBS + GREATER_WEBS:
            found = brute_orders(web)
            for name in range(web.many):
                for place in range(web.many):
                    here = [row for row in found if row[place] == name]
                    self.assert_same(place_share(web, name, place), lowest(len(here), len(found)))

    def test_ahead_share(self):
        self.assert_same(ahead_share(T, 0, 1), (2, 3))
        self.assert_same(ahead_share(T, 0, 2), (1, 1))
        self.assert_same(ahead_share(T, 2, 0), (0, 1))
        self.assert_same(ahead_share(APART8, 7, 0), (1, 2))
        for web in FEW_WEBS + GREATER_WEBS:
            found = brute_orders(web)
            for one in range(web.many):
                for other in range(web.many):
                    if one != other:
                        here = [row for row in found if row.index(one) < row.index(other)]
                        self.assert_same(ahead_share(web, one, other),
                                         lowest(len(here), len(found)))

    def test_mean_place(self):
        self.assert_same(mean_place(T, 2), (5, 3))
        self.assert_same(mean_place(ONE, 0), (0, 1))
        self.assert_same(mean_place(APART8, 3), (7, 2))
        self.assert_same(mean_place(ROW8, 7), (7, 1))
        for web in FEW_WEBS + GREATER_WEBS:
            found = brute_orders(web)
            for name in range(web.many):
                places = [row.index(name) for row in found]
                self.assert_same(mean_place(web, name), lowest(sum(places), len(found)))

    def test_next_shares(self):
        self.assert_same(next_shares(T, ()), {0: (2, 3), 1: (1, 3)})
        self.assert_same(next_shares(T, (0,)), {1: (1, 2), 2: (1, 2)})
        self.assert_same(next_shares(T, (0, 2)), {1: (1, 1)})
        self.assert_same(next_shares(ONE, ()), {0: (1, 1)})
        for web in FEW_WEBS + GREATER_WEBS:
            found = brute_orders(web)
            for lot in brute_lots(web)[:-1]:
                size = len(lot)
                if size < web.many:
                    here = [row for row in found if tuple(sorted(row[:size])) == lot]
                    names = sorted({row[size] for row in here})
                    self.assert_same(next_shares(web, lot), {
                        name: lowest(len([1 for row in here if row[size] == name]), len(here))
                        for name in names})


class WrongSharesTest(Case):
    def test_no_name(self):
        for thing in [*strange(), ()]:
            self.assert_refused(NoName, {}, place_share, T, thing, 0)
            self.assert_refused(NoName, {}, ahead_share, T, thing, 0)
            self.assert_refused(NoName, {}, ahead_share, T, 0, thing)
            self.assert_refused(NoName, {}, mean_place, T, thing)
        for name in range(3):
            self.assert_refused(NoName, {}, ahead_share, T, name, name)
        self.assert_refused(NoName, {}, ahead_share, ONE, 0, 0)
        self.assert_refused(NoName, {}, mean_place, APART8, 8)

    def test_no_place(self):
        for thing in [*strange(), ()]:
            self.assert_refused(NoPlace, {}, place_share, T, 0, thing)
        self.assert_refused(NoPlace, {}, place_share, APART8, 0, 8)
        self.assert_refused(NoPlace, {}, place_share, ONE, 0, False)

    def test_no_name_comes_ahead_of_no_place(self):
        self.assert_refused(NoName, {}, place_share, T, 3, 3)
        self.assert_refused(NoName, {}, place_share, T, True, True)

    def test_no_lot(self):
        for thing in [*strange(), (2,), (1, 2), [0], (1, 0), (0, 0), (False,), (0, 1, 2)]:
            self.assert_refused(NoLot, {}, next_shares, T, thing)
        self.assert_refused(NoLot, {}, next_shares, ONE, (0,))

    def test_dicts_are_new(self):
        self.assert_new(next_shares, N, (0,))


if __name__ == "__main__":
    unittest.main()
