"""5.1: gaps, and orders drawn by them; 0.2 to 0.5 for it; example e05."""

import unittest
from fractions import Fraction
from itertools import permutations

from evenorders.errors import NoCalling, NoName, NoOrder, NoRow
from evenorders.gaps import gap_chance, gaps
from tests.common import APART8, F, FEW_WEBS, GREATER_WEBS, LEVELS8, N, ONE, ROW8, T
from tests.common import Case, brute_orders, strange, strange_but
from tests.rows import all_rows, brute_gap_chances, put_in


class GapsTest(Case):
    def test_by_hand(self):
        self.assert_same(gaps(ONE, (), 0), 1)
        self.assert_same(gaps(T, (), 2), 1)
        self.assert_same(gaps(T, (0, 2), 1), 3)
        self.assert_same(gaps(T, (0, 1), 2), 2)
        self.assert_same(gaps(T, (1, 0), 2), 1)
        self.assert_same(gaps(T, (1, 2), 0), 2)
        self.assert_same(gaps(T, (2, 1), 0), 1)
        self.assert_same(gaps(T, (1,), 0), 2)
        self.assert_same(gaps(N, (0, 1, 3), 2), 2)
        self.assert_same(gaps(ROW8, (0, 1, 2, 4, 5, 6, 7), 3), 1)
        self.assert_same(gaps(APART8, (7, 6, 5, 4, 3, 2, 1), 0), 8)
        self.assert_same(gaps(LEVELS8, (3, 2, 7, 6), 0), 3)

    def test_by_trying_all_gaps(self):
        for web in FEW_WEBS + GREATER_WEBS[:5]:
            for row in all_rows(web):
                for name in [name for name in range(web.many) if name not in row]:
                    self.assert_same(gaps(web, row, name), len(put_in(web, row, name)))

    def test_no_row(self):
        for thing in strange_but((1, 0)):
            self.assert_refused(NoRow, {}, gaps, T, thing, 1)
        for row in [(2, 0), (2, 1, 0), [0, 2], (0, 0), (0, 3), (False,), (0, True), (-1,), ("0",),
                    (0, 2, 2), (0, 2, None), ((0,), 2), ((0, 2),), {0: 0}, (2, 0, 3)]:
            self.assert_refused(NoRow, {}, gaps, T, row, 1)
        self.assert_refused(NoRow, {}, gaps, ROW8, (7, 0), 1)
        self.assert_refused(NoRow, {}, gaps, ROW8, (0, 8), 1)

    def test_no_name(self):
        for thing in [*strange(), 3, -1, True, False]:
            self.assert_refused(NoName, {}, gaps, T, (), thing)
            self.assert_refused(NoName, {}, gaps, T, (0, 2), thing)
        self.assert_refused(NoName, {}, gaps, T, (0, 2), 0)
        self.assert_refused(NoName, {}, gaps, T, (0, 2), 2)
        self.assert_refused(NoName, {}, gaps, T, (0, 1, 2), 1)

    def test_which_error_comes_first(self):
        self.assert_refused(NoRow, {}, gaps, T, (2, 0), 3)
        self.assert_refused(NoRow, {}, gaps, T, [0], 0)


class GapChanceTest(Case):
    def test_e05(self):
        self.assert_same(gap_chance(T, (0, 2, 1), (1, 0, 2)), (1, 3))

    def test_by_hand(self):
        self.assert_same(gap_chance(T, (0, 1, 2), (1, 0, 2)), (1, 2))
        self.assert_same(gap_chance(T, (0, 1, 2), (0, 1, 2)), (1, 4))
        self.assert_same(gap_chance(ONE, (0,), (0,)), (1, 1))
        self.assert_same(gap_chance(ROW8, (7, 0, 6, 1, 5, 2, 4, 3), tuple(range(8))), (1, 1))
        self.assert_same(gap_chance(APART8, tuple(range(8)), (7, 0, 6, 1, 5, 2, 4, 3)), (1, 40320))

    def test_by_drawing_in_all_ways(self):
        webs = [(web, permutations(range(web.many))) for web in FEW_WEBS]
        webs += [(web, [tuple(range(web.many)), tuple(range(web.many))[::-1], (2, 4, 0, 1, 3)])
                 for web in GREATER_WEBS[:5]]
        for web, callings in webs:
            for calling in callings:
                found = brute_gap_chances(web, calling)
                self.assertEqual(sum(found.values()), 1)
                self.assertEqual(sorted(found), brute_orders(web))
                for order in found:
                    top, bottom = gap_chance(web, calling, order)
                    self.assertEqual((top, Fraction(top, bottom)), (1, found[order]))
                    self.assertIs(type(bottom), int)

    def test_no_calling(self):
        for thing in [*strange_but((2, 1, 0)), (), (0, 1), (0, 1, 1), [0, 1, 2], (0, 1, 2, 2),
                      (0, 1, 3), (False, 1, 2), "012"]:
            self.assert_refused(NoCalling, {}, gap_chance, T, thing, (0, 1, 2))

    def test_no_order(self):
        for thing in [*strange(), (), (2, 1, 0), [0, 1, 2], (0, True, 2), (0, 1), (0, 1, 2, 3)]:
            self.assert_refused(NoOrder, {}, gap_chance, T, (2, 1, 0), thing)

    def test_which_error_comes_first(self):
        self.assert_refused(NoCalling, {}, gap_chance, F, (0, 1), (1, 0, 2))
        self.assert_refused(NoCalling, {}, gap_chance, F, None, None)


if __name__ == "__main__":
    unittest.main()
