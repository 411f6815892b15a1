"""9.1, 9.3 and 9.4: how many asks are needed; 0.2 to 0.5 for them; example e09."""

import unittest

from evenorders.asks import first_asks, fewest_asks, lucky, most_asks, must_ask, no_saving, pieces
from evenorders.asks import saving
from evenorders.errors import NoOrder, TooMany
from evenorders.webs import Web, open_pairs
from tests.common import ALMOST_LEVELS8, APART8, F, FEW_WEBS, GREATER_WEBS, LEVELS8, N, ONE, ROW8, T
from tests.common import Case, brute_orders, strange
from tests.games import fewest_to_know, game_of

FIVES = [web for web in GREATER_WEBS if web.many == 5 and len(open_pairs(web)) < 10]
APART5, APART6 = Web(5, ()), Web(6, ())
ROW5 = Web(5, ((0, 1), (1, 2), (2, 3), (3, 4)))
ROW6 = Web(6, ((0, 1), (1, 2), (2, 3), (3, 4), (4, 5)))
TWO_ROWS8 = Web(8, ((0, 1), (1, 2), (2, 3), (4, 5), (5, 6), (6, 7)))
# Each name of it is apart from its neighbours alone.
LONG_ROW8 = Web(8, tuple((one, other) for one in range(8) for other in range(one + 2, 8)))
TRIANGLES8 = Web(8, tuple((one, other) for one in range(8) for other in range(8)
                          if one // 3 < other // 3))
OF_ANY_SIZE = [TWO_ROWS8, LONG_ROW8, TRIANGLES8, LEVELS8, ALMOST_LEVELS8, ROW8, APART8]


class NumbersTest(Case):
    def test_e09(self):
        self.assert_same([fewest_asks(T), most_asks(T)], [2, 2])
        web = Web(4, ((0, 1), (1, 2)))
        self.assert_same([fewest_asks(web), most_asks(web)], [2, 3])

    def test_by_hand(self):
        self.assert_same([fewest_asks(Web(many, ())) for many in (1, 2, 3, 4, 5)], [0, 1, 3, 5, 7])
        self.assert_same(fewest_asks(ROW5), 0)
        self.assert_same(most_asks(ROW5), 0)
        self.assert_same(most_asks(APART5), 10)
        self.assert_same(most_asks(APART8), 28)
        self.assert_same(most_asks(ROW8), 0)
        self.assert_same(most_asks(LEVELS8), 12)

    def test_against_all_games(self):
        for web in FEW_WEBS + FIVES:
            self.assert_same(fewest_asks(web), game_of(web).sum(brute_orders(web)))

    def test_the_sixth_fact(self):
        for web in FEW_WEBS + FIVES[1:]:
            self.assert_same(most_asks(web), game_of(web, best=max).sum(brute_orders(web)))
        for web in OF_ANY_SIZE + GREATER_WEBS:
            self.assert_same(most_asks(web), len(open_pairs(web)))

    def test_first_asks(self):
        self.assert_same(first_asks(ONE), [])
        self.assert_same(first_asks(ROW5), [])
        self.assert_same(first_asks(T), [(0, 1), (1, 2)])
        self.assert_same(first_asks(Web(4, ((0, 1), (1, 2)))), [(1, 3)])
        self.assert_same(first_asks(APART5), open_pairs(APART5))
        for web in FEW_WEBS + FIVES:
            sums = game_of(web).sums(brute_orders(web))
            self.assert_same(first_asks(web),
                             [pair for pair in sorted(sums) if sums[pair] == min(sums.values())])

    def test_saving(self):
        self.assert_same(saving(ONE), None)
        self.assert_same(saving(T), None)
        self.assert_same(saving(Web(3, ())), None)
        self.assert_same(saving(Web(4, ((0, 1), (1, 2)))), (1, 3))
        self.assert_same(saving(APART5), (0, 1))
        for web in FEW_WEBS + FIVES:
            sums = game_of(web).sums(brute_orders(web))
            fewer = [pair for pair in sums if sums[pair] < len(sums)]
            self.assert_same(saving(web), min(fewer, default=None))

    def test_too_many(self):
        for web in (APART6, ROW6, ROW8, APART8):
            for function in (fewest_asks, first_asks, saving):
                self.assert_refused(TooMany, {"most": 5}, function, web)


class NoSavingTest(Case):
    def test_by_hand(self):
        for web in (ONE, ROW8, T, F, N, Web(3, ()), LONG_ROW8, TRIANGLES8,
                    Web(6, ((0, 3), (0, 4), (0, 5), (1, 3), (1, 4), (1, 5), (2, 3), (2, 4), (2, 5)))):
            self.assert_flag(no_saving(web), True)
        for web in (Web(4, ()), APART8, LEVELS8, ALMOST_LEVELS8, TWO_ROWS8, Web(4, ((0, 1), (1, 2))),
                    Web(4, ((0, 2), (1, 3))), Web(4, ((2, 3),)), APART6,
                    Web(5, ((0, 1), (0, 2), (0, 3), (0, 4))), Web(5, ((0, 4), (1, 4), (2, 4), (3, 4)))):
            self.assert_flag(no_saving(web), False)

    def test_the_seventh_fact(self):
        for web in FEW_WEBS + [web for web in GREATER_WEBS if web.many == 5]:
            self.assert_flag(no_saving(web), saving(web) is None)
            self.assert_flag(no_saving(web), fewest_asks(web) == len(open_pairs(web)))
            self.assert_flag(no_saving(web), fewest_asks(web) == most_asks(web))

    def test_pieces(self):
        self.assert_same(pieces(ONE), [(0,)])
        self.assert_same(pieces(T), [(0, 1, 2)])
        self.assert_same(pieces(F), [(0,), (1, 2)])
        self.assert_same(pieces(ROW8), [(name,) for name in range(8)])
        self.assert_same(pieces(APART8), [tuple(range(8))])
        self.assert_same(pieces(LEVELS8), [(0, 1, 2, 3), (4, 5, 6, 7)])
        self.assert_same(pieces(TRIANGLES8), [(0, 1, 2), (3, 4, 5), (6, 7)])
        self.assert_same(pieces(Web(4, ((0, 1), (0, 2), (3, 1), (3, 2)))), [(0, 3), (1, 2)])
        for web in FEW_WEBS + GREATER_WEBS:
            found = pieces(web)
            self.assertEqual(sorted(name for piece in found for name in piece), list(range(web.many)))
            self.assertEqual(found, sorted(found))
            self.assertTrue(all(list(piece) == sorted(piece) for piece in found))
            for one, other in open_pairs(web):
                self.assertTrue(any(one in piece and other in piece for piece in found))
            for piece in found:
                for size in range(1, len(piece)):
                    self.assertTrue(any((one in piece[:size]) != (other in piece[:size])
                                        for one, other in open_pairs(web) if one in piece))


class LuckyTest(Case):
    def test_by_hand(self):
        self.assert_same([lucky(T, order) for order in brute_orders(T)], [2, 1, 1])
        self.assert_same([must_ask(T, order) for order in brute_orders(T)],
                         [[(0, 1), (1, 2)], [(1, 2)], [(0, 1)]])

    def test_must_ask(self):
        self.assert_same(must_ask(APART8, tuple(range(7, -1, -1))), [(name, name + 1) for name in range(7)])
        self.assert_same(must_ask(ROW8, tuple(range(8))), [])
        self.assert_same(must_ask(N, (1, 3, 0, 2)), [(0, 3)])
        for web in FEW_WEBS + GREATER_WEBS:
            for order in brute_orders(web):
                # As long as it is not asked, the order with both turned about may be meant, too.
                pairs = [tuple(sorted(order[at:at + 2])) for at in range(web.many - 1)
                         if (*order[:at], order[at + 1], order[at], *order[at + 2:]) in brute_orders(web)]
                self.assert_same(must_ask(web, order), sorted(pairs))

    def test_lucky(self):
        self.assert_same(lucky(APART8, tuple(range(8))), 7)
        self.assert_same(lucky(ROW8, tuple(range(8))), 0)
        self.assert_same(lucky(ONE, (0,)), 0)
        for web in [web for web in FEW_WEBS if web.many < 4] + FEW_WEBS[30::7] + FIVES[1:]:
            for order in brute_orders(web):
                self.assert_same(lucky(web, order), fewest_to_know(web, order))
                self.assert_same(lucky(web, order), len(must_ask(web, order)))

    def test_no_order(self):
        for thing in [*strange(), (), (2, 1, 0), [0, 1, 2], (0, 1), (0, True, 2), (0, 0, 2)]:
            self.assert_refused(NoOrder, {}, lucky, T, thing)
            self.assert_refused(NoOrder, {}, must_ask, T, thing)

    def test_lists_are_new(self):
        self.assert_new(must_ask, T, (0, 1, 2))
        self.assert_new(must_ask, ROW8, tuple(range(8)))
        for web in (T, ONE, APART5):
            self.assert_new(first_asks, web)
            self.assert_new(pieces, web)


if __name__ == "__main__":
    unittest.main()
