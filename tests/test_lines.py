"""1.4: lines; 0.3, 0.4 for them."""

import unittest
from itertools import combinations, permutations

from evenorders.lines import is_lines, lines, longest, widest
from evenorders.webs import Web, open_pairs
from tests.common import APART8, FEW_WEBS, GREATER_WEBS, N, ONE, ROW8, T, F
from tests.common import Case, exact, strange


def brute_longest(web):
    rows = [row for size in range(1, web.many + 1) for row in permutations(range(web.many), size)]
    found = [row for row in rows if all(pair in web.befores for pair in zip(row, row[1:]))]
    return min(found, key=lambda row: (-len(row), row))


def brute_widest(web):
    lots = [lot for size in range(1, web.many + 1) for lot in combinations(range(web.many), size)]
    found = [lot for lot in lots if all(pair in open_pairs(web) for pair in combinations(lot, 2))]
    return min(found, key=lambda lot: (-len(lot), lot))


class LinesTest(Case):
    def test_longest(self):
        self.assert_same(longest(N), (0, 2))
        self.assert_same(longest(ONE), (0,))
        self.assert_same(longest(APART8), (0,))
        self.assert_same(longest(ROW8), tuple(range(8)))
        self.assert_same(longest(Web(5, ((3, 1), (4, 2)))), (3, 1))
        for web in FEW_WEBS + GREATER_WEBS:
            self.assert_same(longest(web), brute_longest(web))

    def test_widest(self):
        self.assert_same(widest(N), (0, 1))
        self.assert_same(widest(ONE), (0,))
        self.assert_same(widest(APART8), tuple(range(8)))
        self.assert_same(widest(ROW8), (0,))
        self.assert_same(widest(F), (1, 2))
        for web in FEW_WEBS + GREATER_WEBS:
            self.assert_same(widest(web), brute_widest(web))

    def test_lines_are_as_few_as_can_be(self):
        for web in FEW_WEBS + GREATER_WEBS + [APART8, ROW8, ONE]:
            self.assert_flag(is_lines(web, lines(web)), True)
            self.assertEqual(len(lines(web)), len(widest(web)))
        # Whoever lets 0 be followed by 2 here, and keeps to it, needs three lines.
        self.assertEqual(len(lines(N)), 2)
        self.assertEqual(len(lines(Web(6, ((0, 3), (0, 4), (1, 3), (2, 4), (2, 5))))), 3)

    def test_is_lines(self):
        for thing in [[(0, 2), (1,)], [(1,), (0, 2)], [(0,), (1,), (2,)], [(2,), (0,), (1,)]]:
            self.assert_flag(is_lines(T, thing), True)
        row = Web(3, ((0, 1), (1, 2)))
        for thing in [[(0, 1, 2)], [(0, 2), (1,)], [(1, 2), (0,)]]:
            self.assert_flag(is_lines(row, thing), True)

    def test_is_no_lines(self):
        for thing in [
            [], [()], [(0, 2)], [(0, 2), (1,), ()], [(2, 0), (1,)], [(0, 1), (2,)],
            [(0, 2), (1,), (1,)], [(0, 2), (0,), (1,)], [(0, 2), (1,), (3,)], [(0, 2), (-1,)],
            ((0, 2), (1,)), [[0, 2], (1,)], [(0, 2), [1]], [(0, 2), (True,)], [(False, 2), (1,)],
            [(0, 2), 1], [(0, 2), "1"], [(0, 2), ("1",)], [((0, 2), (1,))], [(0, 2), (1, 1)],
        ]:
            self.assert_flag(is_lines(T, thing), False)
        for thing in [*strange(), ()]:
            self.assert_flag(is_lines(T, thing), False)
            self.assert_flag(is_lines(T, [thing]), False)
            self.assert_flag(is_lines(T, [(0, 2), (thing,)]), False)

    def test_what_is_judged_stays(self):
        thing = [(0, 2), (1,)]
        kept = exact(thing)
        is_lines(T, thing)
        self.assertEqual(exact(thing), kept)

    def test_lists_are_new(self):
        self.assert_new(lines, N)


if __name__ == "__main__":
    unittest.main()
