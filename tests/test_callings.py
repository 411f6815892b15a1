"""5.2 to 5.4: callings even at every moment, moments, Ns and two pairs; 0.2 to 0.5 for them;
examples e05 and e06."""

import unittest
from itertools import permutations

from evenorders.callings import an_n, calling, calling_at, calling_number, count_callings
from evenorders.callings import end_even, even_calling, is_moment, moment, two_pairs
from evenorders.errors import NoCalling, NoNumber
from evenorders.webs import Web
from tests.common import ALMOST_LEVELS8, APART8, F, FEW_WEBS, GREATER_WEBS, LEVELS8, N, ONE, ROW8, T
from tests.common import WITH_200, Case, strange, strange_but
from tests.rows import all_rows, brute_gap_chances, brute_is_even, put_in, rows_of

PAIRS = Web(4, ((0, 2), (1, 3)))
# Of this web the calling is even at the end, but not at every moment.
FIVE = Web(5, ((0, 1), (0, 2), (0, 3), (0, 4), (1, 3), (1, 4), (3, 4)))
FIVE_CALLING = (3, 2, 4, 1, 0)
EVEN_CALLINGS = {at: [called for called in permutations(range(web.many))
                      if brute_is_even(web, called)] for at, web in enumerate(FEW_WEBS)}
SOME_CALLINGS = [(web, called) for web in FEW_WEBS[::3] for called in permutations(range(web.many))]
SOME_CALLINGS += [(web, called) for web in [*GREATER_WEBS[:5], FIVE]
                  for called in list(permutations(range(5)))[::7]]


def brute_four(web, befores):
    def fits(names):
        return all(((names[at], names[to]) in web.befores) == ((at, to) in befores)
                   for at in range(4) for to in range(4))

    return min([names for names in permutations(range(web.many), 4) if fits(names)], default=None)


class EvenCallingTest(Case):
    def test_by_hand(self):
        self.assert_flag(even_calling(T, (0, 2, 1)), True)
        self.assert_flag(even_calling(T, (0, 1, 2)), False)
        self.assert_flag(even_calling(N, (0, 1, 2, 3)), False)
        self.assert_flag(even_calling(ONE, (0,)), True)
        self.assert_flag(even_calling(APART8, (7, 0, 6, 1, 5, 2, 4, 3)), True)
        self.assert_flag(even_calling(ROW8, (7, 0, 6, 1, 5, 2, 4, 3)), True)
        self.assert_flag(even_calling(ALMOST_LEVELS8, tuple(range(8))), False)

    def test_by_trying_all_rows(self):
        for at, web in enumerate(FEW_WEBS):
            for called in permutations(range(web.many)):
                self.assert_flag(even_calling(web, called), called in EVEN_CALLINGS[at])
        for web, called in SOME_CALLINGS:
            self.assert_flag(even_calling(web, called), brute_is_even(web, called))

    def test_end_even(self):
        self.assert_flag(end_even(T, (0, 2, 1)), True)
        self.assert_flag(end_even(T, (0, 1, 2)), False)
        self.assert_flag(end_even(ONE, (0,)), True)
        self.assert_flag(end_even(APART8, tuple(range(8))), True)
        self.assert_flag(end_even(ROW8, tuple(range(8))), True)
        self.assert_flag(end_even(FIVE, FIVE_CALLING), True)
        self.assert_flag(even_calling(FIVE, FIVE_CALLING), False)
        for web, called in SOME_CALLINGS:
            chances = brute_gap_chances(web, called)
            self.assert_flag(end_even(web, called), len(set(chances.values())) == 1)

    def test_more_orders_than_can_be_listed(self):
        web = Web(8, ((0, 7),))
        first, last = (0, 7, 1, 2, 3, 4, 5, 6), tuple(range(8))
        self.assert_flag(even_calling(web, first), True)
        self.assert_flag(end_even(web, first), True)
        self.assert_same(moment(web, first), None)
        self.assert_flag(even_calling(web, last), False)
        self.assert_flag(end_even(web, last), False)
        self.assert_flag(is_moment(web, last, moment(web, last)), True)
        self.assert_same(moment(web, last)[0], 7)


class MomentTest(Case):
    def test_moment(self):
        for web, called in SOME_CALLINGS:
            found = moment(web, called)
            if brute_is_even(web, called):
                self.assertIsNone(found)
            else:
                number, row, other = found
                self.assertIs(type(found), tuple)
                self.assertIs(type(number), int)
                for ahead in range(1, number):
                    self.assertEqual(len(self.numbers(web, called, ahead)), 1)
                rows = rows_of(web, called[:number])
                self.assertIn(row, rows)
                self.assertIn(other, rows)
                self.assertNotEqual(len(put_in(web, row, called[number])),
                                    len(put_in(web, other, called[number])))
                self.assert_flag(is_moment(web, called, found), True)
                self.assert_same(moment(web, called), found)

    def numbers(self, web, called, ahead):
        rows = rows_of(web, called[:ahead])
        return {len(put_in(web, row, called[ahead])) for row in rows}

    def test_is_moment_of_any_moment(self):
        for web, called in [(web, called) for web, called in SOME_CALLINGS if web.many < 5][::31]:
            rows = all_rows(web)
            for number in range(web.many + 2):
                for row in rows:
                    for other in rows:
                        fits = (1 <= number < web.many
                                and sorted(row) == sorted(other) == sorted(called[:number])
                                and len(put_in(web, row, called[number]))
                                != len(put_in(web, other, called[number])))
                        self.assert_flag(is_moment(web, called, (number, row, other)), fits)

    def test_is_moment_later_than_the_first(self):
        # 2 is uneven behind 0 and 1, and 4 behind all others.
        web = Web(5, ((0, 2), (1, 4)))
        called = (0, 1, 2, 3, 4)
        self.assert_same(moment(web, called)[0], 2)
        self.assert_flag(is_moment(web, called, (4, (0, 2, 3, 1), (1, 0, 2, 3))), True)
        self.assert_flag(is_moment(web, called, (4, (0, 2, 3, 1), (3, 0, 2, 1))), False)

    def test_is_moment_with_one_thing_changed(self):
        called = (0, 1, 2)
        right = (2, (0, 1), (1, 0))
        self.assert_flag(is_moment(T, called, right), True)
        self.assert_flag(is_moment(T, called, (2, (1, 0), (0, 1))), True)
        for thing in [list(right), right[:2], (*right, None), (1, *right[1:]), (3, *right[1:]),
                      (0, *right[1:]), (-1, *right[1:]), (True, *right[1:]), ("2", *right[1:]),
                      (2, [0, 1], (1, 0)), (2, (0, 1), [1, 0]), (2, (0, 1), (0, 1)),
                      (2, (0, 1), (1, False)), (2, (0, True), (1, 0)), (2, (0,), (1, 0)),
                      (2, (0, 1), (1, 0, 2)), (2, (0, 2), (1, 0)), (2, (0, 1), (1, 2)),
                      (2, (0, 1), (1, 1)), (2, (0, 1), (1, 3)), (2, (0, 1), ()), (0, (), ()),
                      (3, (0, 1, 2), (1, 0, 2)), (2, None, (1, 0)), (2, (0, 1), "10")]:
            self.assert_flag(is_moment(T, called, thing), False)
        # With its names in the wrong order the one is no row.
        self.assert_flag(is_moment(T, (0, 2, 1), (2, (0, 2), (2, 0))), False)
        self.assert_flag(is_moment(N, (0, 2, 1, 3), (2, (0, 2), (2, 0))), False)

    def test_strange_things(self):
        called = (0, 1, 2)
        for thing in strange():
            self.assert_flag(is_moment(T, called, thing), False)
            self.assert_flag(is_moment(T, called, (thing, (0, 1), (1, 0))), False)
            self.assert_flag(is_moment(T, called, (2, (0, 1), (thing,))), False)
        for thing in strange_but((1, 0)):
            self.assert_flag(is_moment(T, called, (2, (0, 1), thing)), False)
        for thing in strange_but((0, 1)):
            self.assert_flag(is_moment(T, called, (2, thing, (1, 0))), False)


class CallingsTest(Case):
    def test_calling(self):
        self.assert_same(calling(T), (0, 2, 1))
        self.assert_same(calling(F), (0, 1, 2))
        self.assert_same(calling(N), None)
        self.assert_same(calling(PAIRS), None)
        self.assert_same(calling(ONE), (0,))
        self.assert_same(calling(APART8), tuple(range(8)))
        self.assert_same(calling(ROW8), tuple(range(8)))
        self.assert_same(calling(LEVELS8), tuple(range(8)))
        self.assert_same(calling(ALMOST_LEVELS8), None)
        self.assert_same(calling(WITH_200), None)
        for at, web in enumerate(FEW_WEBS):
            self.assert_same(calling(web), min(EVEN_CALLINGS[at], default=None))

    def test_callings_counted_and_numbered(self):
        for at, web in enumerate(FEW_WEBS):
            found = EVEN_CALLINGS[at]
            self.assert_same(count_callings(web), len(found))
            self.assert_same([calling_at(web, number) for number in range(len(found))], found)
            self.assert_same([calling_number(web, called) for called in found],
                             list(range(len(found))))
            self.assert_refused(NoNumber, {}, calling_at, web, len(found))
            for called in permutations(range(web.many)):
                if called not in found:
                    self.assert_refused(NoCalling, {}, calling_number, web, called)

    def test_first_and_last_number(self):
        for web in (APART8, ROW8):
            self.assert_same(count_callings(web), 40320)
            self.assert_same(calling_at(web, 0), tuple(range(8)))
            self.assert_same(calling_at(web, 40319), tuple(range(8))[::-1])
            self.assert_same(calling_number(web, tuple(range(8))), 0)
            self.assert_same(calling_number(web, tuple(range(8))[::-1]), 40319)
            self.assert_refused(NoNumber, {}, calling_at, web, 40320)
        self.assert_same(count_callings(T), 2)
        self.assert_same([calling_at(T, 0), calling_at(T, 1)], [(0, 2, 1), (2, 0, 1)])
        self.assert_same(calling_number(T, (2, 0, 1)), 1)
        self.assert_same(calling_number(ONE, (0,)), 0)

    def test_greater_webs(self):
        for web in GREATER_WEBS[:5]:
            found = [called for called in permutations(range(5)) if brute_is_even(web, called)]
            self.assert_same(count_callings(web), len(found))
            self.assert_same(calling(web), min(found, default=None))
            for number in range(0, len(found), 7):
                self.assert_same(calling_at(web, number), found[number])
                self.assert_same(calling_number(web, found[number]), number)

    def test_ns_and_two_pairs(self):
        self.assert_same(an_n(N), (0, 1, 2, 3))
        self.assert_same(two_pairs(N), None)
        self.assert_same(an_n(PAIRS), None)
        self.assert_same(two_pairs(PAIRS), (0, 1, 2, 3))
        self.assert_same(two_pairs(Web(4, ((0, 1), (2, 3)))), (0, 2, 1, 3))
        self.assert_same(an_n(Web(4, ((2, 0), (2, 1), (3, 1)))), (3, 2, 1, 0))
        for web in (ONE, T, APART8, ROW8, LEVELS8):
            self.assert_same(an_n(web), None)
            self.assert_same(two_pairs(web), None)
        self.assert_same(an_n(ALMOST_LEVELS8), (3, 0, 4, 7))
        for web in FEW_WEBS + GREATER_WEBS + [ALMOST_LEVELS8, WITH_200]:
            self.assert_same(an_n(web), brute_four(web, [(0, 2), (1, 2), (1, 3)]))
            self.assert_same(two_pairs(web), brute_four(web, [(0, 2), (1, 3)]))

    def test_the_second_fact(self):
        for web in FEW_WEBS + GREATER_WEBS + [APART8, ROW8, LEVELS8, ALMOST_LEVELS8, WITH_200]:
            self.assert_flag(calling(web) is None,
                             an_n(web) is not None or two_pairs(web) is not None)


class WrongCallingsTest(Case):
    def test_no_calling(self):
        for thing in [*strange_but((2, 1, 0)), (), (0, 1), (0, 1, 1), [0, 1, 2], (0, 1, 2, 2),
                      (0, 1, 3), (False, 1, 2), (0, True, 2), "012"]:
            for function in (even_calling, moment, end_even, calling_number):
                self.assert_refused(NoCalling, {}, function, T, thing)
            self.assert_refused(NoCalling, {}, is_moment, T, thing, (2, (0, 1), (1, 0)))
            self.assert_refused(NoCalling, {}, is_moment, T, thing, None)

    def test_calling_number_of_one_that_is_not_even(self):
        self.assert_refused(NoCalling, {}, calling_number, T, (0, 1, 2))
        self.assert_refused(NoCalling, {}, calling_number, N, (0, 1, 2, 3))
        self.assert_refused(NoCalling, {}, calling_number, FIVE, FIVE_CALLING)

    def test_no_number(self):
        for thing in [*strange(), 2, -1, True, False, "0", (0,)]:
            self.assert_refused(NoNumber, {}, calling_at, T, thing)
        self.assert_refused(NoNumber, {}, calling_at, N, 0)
        self.assert_refused(NoNumber, {}, calling_at, PAIRS, 0)
        self.assert_refused(NoNumber, {}, calling_at, ONE, 1)


if __name__ == "__main__":
    unittest.main()
