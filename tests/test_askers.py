"""9.5 and 9.6: strangers who ask, and prices; 0.2 to 0.5 for them."""

import unittest

from evenorders.askers import asks_of, cheap_first, cheapest_asks, worst_of
from evenorders.asks import fewest_asks, first_asks, most_asks
from evenorders.errors import BadAsker, NoName, NoOrder, NoPrices, TooMany
from evenorders.webs import Web, open_pairs
from tests.common import APART8, F, FEW_WEBS, GREATER_WEBS, N, ONE, ROW8, T, WITH_4704, WITH_5040
from tests.common import Case, Recorder, brute_orders, strange, strange_but
from tests.games import by_answers, game_of, open_in

MOST = 10 ** 6
APART5, APART6 = Web(5, ()), Web(6, ())
ROW6 = Web(6, ((0, 1), (1, 2), (2, 3), (3, 4), (4, 5)))
FIVES = [web for web in GREATER_WEBS if web.many == 5 and len(open_pairs(web)) < 10]


def open_by(many, befores):
    return [(one, other) for one in range(many) for other in range(one + 1, many)
            if (one, other) not in befores and (other, one) not in befores]


def by_choice(many, choose):
    return lambda befores: choose(open_by(many, befores))


CHOICES = [min, max, lambda pairs: pairs[0][::-1], lambda pairs: pairs[len(pairs) // 2],
           lambda pairs: pairs[-1][::-1] if len(pairs) % 2 else pairs[0]]


def brute_asks(web, asker, order):
    """What is asked, and with what befores, known from the orders that are left."""
    rows, asks, seen = brute_orders(web), [], []
    while len(rows) > 1:
        names = range(web.many)
        seen.append(tuple((one, other) for one in names for other in names if one != other
                          and all(row.index(one) < row.index(other) for row in rows)))
        asks.append(asker(seen[-1]))
        rows = next(part for part in by_answers(rows, *asks[-1]) if order in part)
    return asks, seen


class AskersTest(Case):
    def test_by_hand(self):
        self.assert_same(asks_of(T, by_choice(3, min), (0, 1, 2)), [(0, 1), (1, 2)])
        self.assert_same(asks_of(T, by_choice(3, min), (1, 0, 2)), [(0, 1)])
        self.assert_same(asks_of(T, lambda befores: (2, 1), (0, 2, 1)), [(2, 1)])
        self.assert_same(worst_of(T, by_choice(3, min)), (2, (0, 1, 2)))
        self.assert_same(worst_of(T, by_choice(3, max)), (2, (0, 1, 2)))
        self.assert_same(worst_of(Web(3, ()), by_choice(3, max)), (3, (0, 1, 2)))

    def test_who_has_nothing_to_ask_is_not_called(self):
        for web, order in [(ONE, (0,)), (ROW8, tuple(range(8))), (Web(2, ((1, 0),)), (1, 0))]:
            recorder = Recorder(lambda befores: None)
            self.assert_same(asks_of(web, recorder, order), [])
            self.assert_same(worst_of(web, recorder), (0, order))
            self.assertEqual(recorder.seen, [])

    def test_against_the_orders_that_are_left(self):
        for web in FEW_WEBS + FIVES + GREATER_WEBS[5:]:
            for choose in CHOICES:
                asker = by_choice(web.many, choose)
                for order in brute_orders(web)[::1 if web.many < 5 else 7]:
                    recorder = Recorder(asker)
                    asks, seen = brute_asks(web, asker, order)
                    self.assert_same(asks_of(web, recorder, order), asks)
                    self.assert_same(recorder.seen, [(befores,) for befores in seen])

    def test_worst_of(self):
        for web in FEW_WEBS + FIVES:
            for choose in CHOICES:
                asker = by_choice(web.many, choose)
                found = [(len(asks_of(web, asker, order)), order) for order in brute_orders(web)]
                most = max(number for number, _ in found)
                worst = min(order for number, order in found if number == most)
                self.assert_same(worst_of(web, asker), (most, worst))
                self.assertLessEqual(fewest_asks(web), most)
                self.assertLessEqual(most, most_asks(web))

    def test_an_asker_who_is_as_good_as_can_be(self):
        for web in FEW_WEBS[::3] + FIVES[1:]:
            number, _ = worst_of(web, lambda befores: first_asks(Web(web.many, befores))[0])
            self.assert_same(number, fewest_asks(web))

    def test_many_orders(self):
        number, order = worst_of(WITH_4704, by_choice(8, min))
        self.assertEqual(len(asks_of(WITH_4704, by_choice(8, min), order)), number)
        self.assertLessEqual(number, most_asks(WITH_4704))
        self.assert_refused(TooMany, {"most": 5000}, worst_of, WITH_5040, by_choice(7, min))
        self.assert_refused(TooMany, {"most": 5000}, worst_of, APART8, lambda befores: None)
        self.assertEqual(len(asks_of(APART8, by_choice(8, min), tuple(range(8)))), 28)

    def test_lists_are_new(self):
        self.assert_new(asks_of, T, by_choice(3, min), (0, 1, 2))
        self.assert_new(asks_of, ONE, by_choice(1, min), (0,))


class WrongAskersTest(Case):
    def test_bad_askers(self):
        for thing in [*strange_but((1, 0)), (), (0,), (0, 2), (2, 0), (0, 1, 2), [0, 1], (0, 0), (1, 1),
                      (0, 3), (-1, 1), (0, True), (False, 1), ("0", 1), "01", {0: 1, 1: 0}, ((0, 1),)]:
            self.assert_refused(BadAsker, {"befores": ((0, 2),)}, asks_of, T, lambda befores: thing, (0, 1, 2))
            self.assert_refused(BadAsker, {"befores": ((0, 2),)}, worst_of, T, lambda befores: thing)

    def test_bad_later(self):
        answers = {((0, 2),): (0, 1)}
        self.assert_same(asks_of(T, answers.get, (1, 0, 2)), [(0, 1)])
        self.assert_refused(BadAsker, {"befores": ((0, 1), (0, 2))}, asks_of, T, answers.get, (0, 1, 2))
        # What is known already is not asked again.
        self.assert_refused(BadAsker, {"befores": ((0, 1), (0, 2))}, asks_of, T, lambda befores: (0, 1),
                            (0, 2, 1))

    def test_the_least_order_that_comes_to_one(self):
        web = Web(3, ())
        # (0, 2, 1) comes to the second one of these, (1, 0, 2) to the first one.
        answers = {(): (0, 1), ((0, 1),): (2, 1), ((1, 0),): None, ((0, 1), (2, 1)): (1, 2)}
        self.assert_same(asks_of(web, answers.get, (0, 1, 2)), [(0, 1), (2, 1)])
        self.assert_refused(BadAsker, {"befores": ((0, 1), (2, 1))}, worst_of, web, answers.get)
        self.assert_refused(BadAsker, {"befores": ((1, 0),)}, asks_of, web, answers.get, (1, 0, 2))
        answers[((0, 1), (2, 1))] = (2, 0)
        self.assert_refused(BadAsker, {"befores": ((1, 0),)}, worst_of, web, answers.get)
        answers[((1, 0),)] = (0, 2)
        self.assert_refused(BadAsker, {"befores": ((1, 0), (2, 0))}, worst_of, web, answers.get)
        answers[((1, 0), (2, 0))] = (1, 2)
        self.assert_same(worst_of(web, answers.get), (3, (0, 2, 1)))

    def test_no_order(self):
        for thing in [*strange(), (), (2, 1, 0), [0, 1, 2], (0, 1), (0, True, 2), (0, 0, 2)]:
            self.assert_refused(NoOrder, {}, asks_of, T, by_choice(3, min), thing)
            self.assert_refused(NoOrder, {}, asks_of, T, lambda befores: None, thing)

    def test_errors_go_on(self):
        for error in (KeyError("x"), ValueError(), NoName(), BadAsker(7), ZeroDivisionError(), StopIteration(),
                      KeyboardInterrupt()):
            def asker(befores):
                raise error
            for function, args in [(asks_of, (T, asker, (0, 1, 2))), (worst_of, (T, asker))]:
                with self.assertRaises(type(error)) as caught:
                    function(*args)
                self.assertIs(caught.exception, error)


def some_prices(number):
    return [(0,) * number, (2, 3, 1, 5, 8, 0, 1, 2, 9)[:number], (MOST, *(1,) * 9)[:number],
            (*(0,) * 9, 9)[10 - number:], tuple(at * at + 1 for at in range(number))]


class PricesTest(Case):
    def test_by_hand(self):
        self.assert_same(cheapest_asks(ONE, ()), 0)
        self.assert_same(cheap_first(ONE, ()), None)
        self.assert_same(cheapest_asks(T, (3, 5)), 8)
        self.assert_same(cheap_first(T, (3, 5)), (0, 1))
        self.assert_same(cheapest_asks(Web(4, ((0, 1), (1, 2))), (1, 1, 1)), 2)
        self.assert_same(cheap_first(Web(4, ((0, 1), (1, 2))), (1, 1, 1)), (1, 3))
        # Whatever it costs, 1 and 3 may have to be asked.
        self.assert_same(cheapest_asks(Web(4, ((0, 1), (1, 2))), (1, MOST, 1)), MOST + 1)
        self.assert_same(cheap_first(Web(4, ((0, 1), (1, 2))), (1, 3, 9)), (1, 3))
        self.assert_same(cheap_first(Web(4, ((0, 1), (1, 2))), (0, MOST, MOST)), (0, 3))
        self.assert_same(cheapest_asks(Web(2, ()), (MOST,)), MOST)
        self.assert_same(cheapest_asks(APART5, (0,) * 10), 0)
        self.assert_same(cheap_first(APART5, (0,) * 10), (0, 1))

    def test_prices_alike(self):
        for web in FEW_WEBS[::4] + [APART5]:
            for price in (1, 7, MOST):
                prices = (price,) * len(open_pairs(web))
                self.assert_same(cheapest_asks(web, prices), price * fewest_asks(web))
                self.assert_same(cheap_first(web, prices), min(first_asks(web), default=None))

    def test_against_all_games(self):
        for web in FEW_WEBS + FIVES:
            number = len(open_pairs(web))
            for prices in some_prices(number):
                sums = game_of(web, prices).sums(brute_orders(web))
                least = min(sums.values(), default=0)
                self.assert_same(cheapest_asks(web, prices), least)
                self.assert_same(cheap_first(web, prices),
                                 min([pair for pair in sums if sums[pair] == least], default=None))

    def test_no_prices(self):
        for function in (cheapest_asks, cheap_first):
            for thing in [*strange_but((1, 0), (0, 0), (0, 3)), (), (1,), (1, 1, 1), [1, 1], (1, -1),
                          (MOST + 1, 1), (1, MOST + 1), (True, 1), (1, False), (1, "1"), (1, None),
                          {0: 1, 1: 1}, "11", ((1, 1),)]:
                self.assert_refused(NoPrices, {}, function, T, thing)
            for thing in strange_but(()):
                self.assert_refused(NoPrices, {}, function, ONE, thing)
                self.assert_refused(NoPrices, {}, function, ROW8, thing)

    def test_too_many(self):
        for function in (cheapest_asks, cheap_first):
            self.assert_refused(TooMany, {"most": 5}, function, ROW6, ())
            self.assert_refused(TooMany, {"most": 5}, function, APART6, (1,) * 15)
            self.assert_refused(TooMany, {"most": 5}, function, APART8, (0,) * 28)

    def test_which_error_comes_first(self):
        for function in (cheapest_asks, cheap_first):
            self.assert_refused(NoPrices, {}, function, ROW6, (1,))
            self.assert_refused(NoPrices, {}, function, APART6, (1,) * 14)
            self.assert_refused(NoPrices, {}, function, APART8, None)
        self.assert_refused(TooMany, {"most": 5000}, worst_of, APART8, None)
        self.assertEqual(open_in(brute_orders(N)), [(0, 1), (0, 3), (2, 3)])
        self.assert_same(cheapest_asks(F, (4,)), 4)


if __name__ == "__main__":
    unittest.main()
