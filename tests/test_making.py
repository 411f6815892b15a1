"""1.3: webs made of others; 0.3, 0.4 for them."""

import unittest
from itertools import permutations

from evenorders.errors import NoBefore, NoLot, NoName, NoNames, TooMany
from evenorders.making import naming, one_behind, part, renamed, side_by_side, turned
from evenorders.making import with_before, without_before
from evenorders.webs import Web, straight
from tests.common import APART8, FEW_WEBS, GREATER_WEBS, N, ONE, ROW8, T, F
from tests.common import Case, strange


class MakingTest(Case):
    def test_turned(self):
        self.assert_same(turned(N), Web(4, ((2, 0), (2, 1), (3, 1))))
        self.assert_same(turned(ONE), ONE)
        for web in FEW_WEBS + GREATER_WEBS + [ROW8]:
            self.assert_same(turned(web).befores,
                             tuple(sorted((other, one) for one, other in web.befores)))
            self.assert_same(turned(turned(web)), web)

    def test_renamed(self):
        self.assert_same(renamed(T, (2, 0, 1)), Web(3, ((2, 1),)))
        self.assert_same(renamed(N, (3, 2, 1, 0)), Web(4, ((2, 0), (2, 1), (3, 1))))
        self.assert_same(renamed(ONE, (0,)), ONE)
        self.assert_same(renamed(ROW8, tuple(range(8))), ROW8)

    def test_no_names(self):
        for thing in [*strange(), ()]:
            if thing != (2, 1, 0):
                self.assert_refused(NoNames, {}, renamed, T, thing)
        for thing in [[0, 1, 2], (0, 1), (0, 1, 1), (0, 1, 3), (False, 1, 2), (0, 1, 2, 3)]:
            self.assert_refused(NoNames, {}, renamed, T, thing)

    def test_part(self):
        self.assert_same(part(N, (1, 2, 3)), Web(3, ((0, 1), (0, 2))))
        self.assert_same(part(N, (2, 3)), Web(2, ()))
        self.assert_same(part(N, (3,)), ONE)
        self.assert_same(part(N, (0, 1, 2, 3)), N)
        self.assert_same(part(ROW8, (0, 3, 7)), Web(3, ((0, 1), (1, 2))))
        self.assert_same(part(Web(4, ((3, 0),)), (0, 2, 3)), Web(3, ((2, 0),)))

    def test_part_of_no_lot(self):
        for thing in [*strange(), ()]:
            self.assert_refused(NoLot, {}, part, T, thing)
        for thing in [[0], (1, 0), (0, 0), (3,), (True,), (0, 1, 2, 3)]:
            self.assert_refused(NoLot, {}, part, T, thing)

    def test_side_by_side(self):
        self.assert_same(side_by_side(T, F), Web(6, ((0, 2), (3, 4), (3, 5))))
        self.assert_same(side_by_side(ONE, ONE), Web(2, ()))
        self.assert_same(side_by_side(N, N).many, 8)
        self.assert_same(side_by_side(Web(7, ()), ONE), APART8)

    def test_one_behind(self):
        self.assert_same(one_behind(Web(2, ()), Web(2, ((1, 0),))),
                         Web(4, ((0, 2), (0, 3), (1, 2), (1, 3), (3, 2))))
        self.assert_same(one_behind(ONE, ONE), Web(2, ((0, 1),)))
        self.assert_same(one_behind(T, ONE), Web(4, ((0, 2), (0, 3), (1, 3), (2, 3))))
        self.assert_same(one_behind(one_behind(ONE, T), F), one_behind(ONE, one_behind(T, F)))

    def test_more_than_eight_names(self):
        for function in (side_by_side, one_behind):
            self.assert_refused(TooMany, {"most": 8}, function, APART8, ONE)
            self.assert_refused(TooMany, {"most": 8}, function, ONE, ROW8)
            self.assert_refused(TooMany, {"most": 8}, function, Web(5, ()), N)
            self.assert_same(function(N, N).many, 8)

    def test_with_before(self):
        self.assert_same(with_before(T, 2, 1), Web(3, ((0, 1), (0, 2), (2, 1))))
        self.assert_same(with_before(T, 0, 2), T)
        self.assert_same(with_before(N, 2, 3), Web(4, ((0, 2), (1, 2), (2, 3))))
        self.assert_same(with_before(ROW8, 0, 7), ROW8)

    def test_no_before(self):
        self.assert_refused(NoBefore, {}, with_before, T, 1, 1)
        self.assert_refused(NoBefore, {}, with_before, T, 2, 0)
        self.assert_refused(NoBefore, {}, with_before, ROW8, 7, 0)
        self.assert_refused(NoBefore, {}, with_before, ONE, 0, 0)

    def test_without_before(self):
        self.assert_same(without_before(T, 0, 2), Web(3, ()))
        self.assert_same(without_before(Web(3, ((0, 1), (1, 2))), 0, 1), Web(3, ((0, 2), (1, 2))))
        for web in FEW_WEBS + GREATER_WEBS + [ROW8]:
            for one, other in straight(web):
                self.assert_same(without_before(web, one, other).befores,
                                 tuple(pair for pair in web.befores if pair != (one, other)))

    def test_no_straight_before(self):
        for one, other in [(2, 0), (0, 1), (1, 1)]:
            self.assert_refused(NoBefore, {}, without_before, T, one, other)
        self.assert_refused(NoBefore, {}, without_before, ROW8, 0, 2)
        self.assert_refused(NoBefore, {}, without_before, ONE, 0, 0)

    def test_no_name_before_no_before(self):
        for function in (with_before, without_before):
            for thing in [*strange(), ()]:
                self.assert_refused(NoName, {}, function, T, thing, 1)
                self.assert_refused(NoName, {}, function, T, 1, thing)
            self.assert_refused(NoName, {}, function, T, 3, 3)
            self.assert_refused(NoName, {}, function, T, True, 1)

    def test_naming(self):
        self.assert_same(naming(T, Web(3, ((1, 0),))), (1, 2, 0))
        self.assert_same(naming(T, F), None)
        self.assert_same(naming(T, Web(4, ((0, 2),))), None)
        self.assert_same(naming(ONE, ONE), (0,))
        self.assert_same(naming(APART8, APART8), tuple(range(8)))
        self.assert_same(naming(ROW8, turned(ROW8)), tuple(range(7, -1, -1)))
        self.assert_same(naming(APART8, ROW8), None)

    def test_naming_is_the_least(self):
        webs = FEW_WEBS[4:23] + FEW_WEBS[23::24]
        for one in webs:
            for other in webs:
                found = [names for names in permutations(range(one.many))
                         if one.many == other.many and renamed(one, names) == other]
                self.assert_same(naming(one, other), min(found) if found else None)
        for web in GREATER_WEBS:
            other = renamed(web, tuple(range(web.many))[::-1])
            self.assert_same(naming(web, other), min(
                names for names in permutations(range(web.many)) if renamed(web, names) == other))

    def test_naming_of_webs_with_like_names(self):
        # Each name has two beside it: all eight in one ring, or four and four.
        ring = Web(8, ((0, 4), (0, 5), (1, 5), (1, 6), (2, 6), (2, 7), (3, 4), (3, 7)))
        rings = Web(8, ((0, 4), (0, 5), (1, 4), (1, 5), (2, 6), (2, 7), (3, 6), (3, 7)))
        for one, other in [(ring, rings), (turned(ring), turned(rings))]:
            self.assert_same(naming(one, other), None)
            self.assert_same(naming(other, one), None)
            again = renamed(one, (7, 0, 6, 1, 5, 2, 4, 3))
            self.assertEqual(renamed(one, naming(one, again)), again)
            self.assert_same(naming(one, one), tuple(range(8)))
        self.assert_same(naming(ring, turned(ring)), (4, 5, 6, 7, 3, 0, 1, 2))

    def test_webs_stay_as_they_were(self):
        web = Web(4, ((0, 2), (1, 2), (1, 3)))
        for made in (turned(web), renamed(web, (3, 1, 2, 0)), part(web, (0, 1)),
                     with_before(web, 0, 1), without_before(web, 0, 2), side_by_side(web, web)):
            self.assertIsNot(made, web)
            self.assert_same(web, N)


if __name__ == "__main__":
    unittest.main()
