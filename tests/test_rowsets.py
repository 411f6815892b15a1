"""2.3: webs told by some orders; 0.3, 0.4 for them."""

import unittest
from itertools import combinations, permutations

from evenorders.errors import NoRows, TooMany
from evenorders.orders import orders
from evenorders.rowsets import are_all, common_web, fewest_rows
from evenorders.webs import Web
from tests.common import APART8, FEW_WEBS, GREATER_WEBS, N, ONE, ROW8, T
from tests.common import Case, all_webs, brute_orders, exact, strange

WRONG_ROWS = [
    [], (), [()], [[0, 1]], [(0, 1), [1, 0]], [(0, 0)], [(0, 1), (1, 1)], [(1, 2)], [(0, 2)],
    [(0, 1), (0, 1, 2)], [(0, 1, 2), (0, 1)], [(False, 1)], [(0, 1), (0, True)], [(0, 1), None],
    [(0, 1), "01"], ["01"], [tuple(range(9))], (0, 1), [(0, 1), (1, -1)], [("0", "1")],
    [(0, 1), (1, (0,))], {(0, 1): 1}, "0", [(0,)] * 1001, ((0, 1),) * 1001,
]


class CommonWebTest(Case):
    def test_common_web(self):
        self.assert_same(common_web([(0, 1, 2), (0, 2, 1), (1, 0, 2)]), T)
        self.assert_same(common_web(((0, 2, 1), (1, 0, 2))), T)
        self.assert_same(common_web([(0,)]), ONE)
        self.assert_same(common_web([tuple(range(8))]), ROW8)
        self.assert_same(common_web(((3, 1, 2, 0),)),
                         Web(4, ((1, 0), (1, 2), (2, 0), (3, 0), (3, 1), (3, 2))))
        self.assert_same(common_web([tuple(range(8)), tuple(range(7, -1, -1))]), APART8)
        for web in FEW_WEBS + GREATER_WEBS:
            self.assert_same(common_web(brute_orders(web)), web)

    def test_common_web_of_some_rows(self):
        for rows in combinations(list(permutations(range(4)))[::3], 3):
            befores = [(one, other) for one in range(4) for other in range(4)
                       if all(row.index(one) < row.index(other) for row in rows)]
            self.assert_same(common_web(rows).befores, tuple(befores))
            self.assert_same(common_web(list(rows)), common_web(rows))

    def test_as_many_rows_as_may_be(self):
        self.assert_same(common_web([(1, 0)] * 999 + [(0, 1)]), Web(2, ()))
        self.assert_same(common_web([(0,)] * 1000), ONE)
        self.assert_flag(are_all([(1, 0)] * 1000), True)

    def test_no_rows(self):
        for thing in [*strange(), *WRONG_ROWS]:
            if thing != [(0, 1, 2)]:
                self.assert_refused(NoRows, {}, common_web, thing)
                self.assert_refused(NoRows, {}, are_all, thing)
        for thing in [*strange(), ()]:
            if thing != (2, 1, 0):
                self.assert_refused(NoRows, {}, common_web, [(0, 1, 2), thing])
            self.assert_refused(NoRows, {}, are_all, [(0, 1, 2), (0, 1, thing)])

    def test_are_all(self):
        self.assert_flag(are_all([(0, 1, 2), (0, 2, 1), (1, 0, 2)]), True)
        self.assert_flag(are_all(((1, 0, 2), (0, 2, 1), (0, 1, 2), (0, 1, 2))), True)
        self.assert_flag(are_all([(0, 1, 2), (1, 0, 2), (1, 0, 2)]), True)
        self.assert_flag(are_all([(0, 2, 1), (1, 0, 2)]), False)
        self.assert_flag(are_all([(0,)]), True)
        self.assert_flag(are_all([tuple(range(8))]), True)
        self.assert_flag(are_all([tuple(range(8)), tuple(range(7, -1, -1))]), False)

    def test_are_all_of_all_sets_of_rows(self):
        every = [brute_orders(web) for web in all_webs(3)]
        rows = list(permutations(range(3)))
        for size in range(1, 7):
            for some in combinations(rows, size):
                self.assert_flag(are_all(some[::-1]), list(some) in every)

    def test_all_orders_of_a_web_are_all(self):
        for web in FEW_WEBS + GREATER_WEBS:
            found = brute_orders(web)
            self.assert_flag(are_all(found), True)
            for some in (found[1:], found[:-1], found[::2]):
                if some:
                    whole = brute_orders(common_web(some)) == some
                    self.assert_flag(are_all(some), whole)

    def test_rows_stay_as_they_were(self):
        rows = [(0, 1, 2), (0, 2, 1), (0, 1, 2)]
        kept = exact(rows)
        common_web(rows)
        are_all(rows)
        self.assertEqual(exact(rows), kept)


class FewestRowsTest(Case):
    def test_fewest_rows(self):
        self.assert_same(fewest_rows(ONE), (1, ((0,),)))
        self.assert_same(fewest_rows(T), (2, ((0, 2, 1), (1, 0, 2))))
        self.assert_same(fewest_rows(Web(5, ((0, 1), (1, 2), (2, 3), (3, 4)))),
                         (1, ((0, 1, 2, 3, 4),)))
        self.assert_same(fewest_rows(Web(5, ())), (2, ((0, 1, 2, 3, 4), (4, 3, 2, 1, 0))))

    def test_fewest_rows_are_the_least(self):
        for web in FEW_WEBS + [web for web in GREATER_WEBS if web.many == 5]:
            found = brute_orders(web)
            number = 1
            fitting = []
            while not fitting:
                fitting = [rows for rows in combinations(found, number)
                           if common_web(rows) == web]
                number += 1
            self.assert_same(fewest_rows(web), (number - 1, min(fitting)))

    def test_more_than_five_names(self):
        for web in [Web(6, ()), APART8, ROW8]:
            self.assert_refused(TooMany, {"most": 5}, fewest_rows, web)

    def test_rows_are_orders(self):
        for web in FEW_WEBS:
            number, rows = fewest_rows(web)
            self.assertEqual(number, len(rows))
            self.assertTrue(all(row in orders(web) for row in rows))
            self.assertEqual(list(rows), sorted(set(rows)))


if __name__ == "__main__":
    unittest.main()
