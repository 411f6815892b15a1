"""12.1: strangers' drawers; 0.2 to 0.5 for them."""

import unittest
from fractions import Fraction

from evenorders.errors import BadDrawer, NoName, NoOrder, TooMany
from evenorders.orders import orders, rest
from evenorders.strangers import drawn, judged
from evenorders.tickets import ticket_chance, tickets
from evenorders.ways import chance
from evenorders.webs import Web
from tests.brute import free, pair_of
from tests.common import APART8, F, FEW_WEBS, GREATER_WEBS, LEVELS8, N, ONE, ROW8, T
from tests.common import WITH_4704, WITH_5040, Case, Recorder, brute_orders, strange

GREAT = 10 ** 59


def those_free(web, row):
    return free(web, [name for name in range(web.many) if name not in row], False)


def front(web):
    return lambda row: {name: 1 for name in those_free(web, row)}


def fair(web):
    """A drawer by which all orders are alike likely."""
    def drawer(row):
        return {name: rest(web, tuple(sorted((*row, name)))) for name in those_free(web, row)}
    return drawer


def crooked(web):
    """A drawer that gives tickets of 0, great ones, and leaves names out."""
    def drawer(row):
        names = those_free(web, row)
        amounts = [(3, 0, GREAT, 1, 7, 2, 5, 1)[(name + len(row)) % 8] for name in names]
        found = {name: amount for name, amount in zip(names, amounts) if (name * len(row)) % 5 != 4}
        return found if any(found.values()) else {names[-1]: 2}
    return drawer


def least_only(web):
    return lambda row: {min(those_free(web, row)): 5}


MAKERS = [front, fair, crooked, least_only]


def brute_chances(web, drawer):
    found = {}
    for order in brute_orders(web):
        share = Fraction(1)
        for at in range(web.many):
            given = drawer(order[:at]) if share else {order[at]: 1}
            share *= Fraction(given.get(order[at], 0), sum(given.values()))
        found[order] = share
    return found


class DrawnTest(Case):
    def test_by_hand(self):
        self.assert_same(drawn(T, front(T), (1, 0, 2)), (1, 2))
        self.assert_same(drawn(T, lambda row: {0: 3, 1: 1} if not row else front(T)(row), (1, 0, 2)), (1, 4))
        self.assert_same(drawn(T, lambda row: {1: 1} if not row else front(T)(row), (0, 1, 2)), (0, 1))
        self.assert_same(drawn(ONE, lambda row: {0: GREAT}, (0,)), (1, 1))
        self.assert_same(drawn(Web(2, ()), lambda row: {0: 1, 1: GREAT} if not row else front(Web(2, ()))(row),
                               (0, 1)), (1, GREAT + 1))
        self.assert_same(drawn(APART8, front(APART8), tuple(range(8))), (1, 40320))

    def test_against_all_draws(self):
        for web in FEW_WEBS + GREATER_WEBS[1:4]:
            for maker in MAKERS:
                found = brute_chances(web, maker(web))
                self.assertEqual(sum(found.values()), 1)
                for order in list(found)[::1 if web.many < 5 else 3]:
                    self.assert_same(drawn(web, maker(web), order), pair_of(found[order]))

    def test_what_it_is_called_with(self):
        for web in FEW_WEBS[::5] + [ROW8]:
            for maker in MAKERS:
                for order in brute_orders(web):
                    recorder = Recorder(maker(web))
                    share = drawn(web, recorder, order)
                    self.assert_same(recorder.seen, [(order[:at],) for at in range(len(recorder.seen))])
                    if share[0]:
                        self.assertEqual(len(recorder.seen), web.many)
                    else:
                        given = maker(web)(order[:len(recorder.seen) - 1])
                        self.assertEqual(given.get(order[len(recorder.seen) - 1], 0), 0)

    def test_ways_and_tickets_are_drawers(self):
        for web in FEW_WEBS[::3]:
            for order in brute_orders(web):
                self.assert_same(drawn(web, front(web), order), chance(web, "front", order))
                given = tuple(range(1, web.many + 1))
                by_tickets = Recorder(lambda row: {name: given[name] for name in those_free(web, row)})
                self.assert_same(drawn(web, by_tickets, order), ticket_chance(web, given, order))

    def test_no_order(self):
        for thing in [*strange(), (), (2, 1, 0), [0, 1, 2], (0, 1), (0, True, 2), (0, 0, 2)]:
            recorder = Recorder(front(T))
            self.assert_refused(NoOrder, {}, drawn, T, recorder, thing)
            self.assertEqual(recorder.seen, [])
            self.assert_refused(NoOrder, {}, drawn, T, lambda row: None, thing)


class JudgedTest(Case):
    def test_by_hand(self):
        self.assert_same(judged(T, front(T)), ((0, 1, 2), (1, 0, 2)))
        self.assert_same(judged(T, fair(T)), None)
        self.assert_same(judged(F, front(F)), None)
        self.assert_same(judged(T, least_only(T)), ((0, 1, 2), (0, 2, 1)))
        self.assert_same(judged(T, lambda row: {max(those_free(T, row)): 1}), ((0, 1, 2), (1, 0, 2)))
        self.assert_same(judged(ONE, lambda row: {0: 9}), None)
        self.assert_same(judged(ROW8, least_only(ROW8)), None)
        self.assert_same(judged(LEVELS8, front(LEVELS8)), None)

    def test_against_all_draws(self):
        for web in FEW_WEBS + GREATER_WEBS[1:4]:
            for maker in MAKERS:
                found = brute_chances(web, maker(web))
                least = min(found)
                unlike = [order for order in found if found[order] != found[least]]
                self.assert_same(judged(web, maker(web)), (least, min(unlike)) if unlike else None)

    def test_tickets_that_are_even(self):
        for web in FEW_WEBS[::4]:
            given = tickets(web)
            if given is not None:
                self.assert_same(judged(web, lambda row: {one: given[one] for one in those_free(web, row)}),
                                 None)

    def test_rows_that_come_to_be(self):
        for web in FEW_WEBS[::6] + [GREATER_WEBS[2]]:
            for maker in MAKERS:
                recorder = Recorder(maker(web))
                judged(web, recorder)
                rows = [row for row, in recorder.seen]
                self.assertEqual(len(set(rows)), len(rows))
                possible = {order[:at] for order, share in brute_chances(web, maker(web)).items()
                            for at in range(web.many) if share}
                self.assertEqual(set(rows), possible)
                self.assertEqual(rows, sorted(rows, key=lambda row: (len(row), row)))

    def test_many_orders(self):
        self.assert_same(judged(WITH_4704, fair(WITH_4704)), None)
        least, other = judged(WITH_4704, front(WITH_4704))
        self.assertEqual(least, orders(WITH_4704)[0])
        self.assertNotEqual(drawn(WITH_4704, front(WITH_4704), least),
                            drawn(WITH_4704, front(WITH_4704), other))
        for web in (WITH_5040, APART8):
            recorder = Recorder(front(web))
            self.assert_refused(TooMany, {"most": 5000}, judged, web, recorder)
            self.assertEqual(recorder.seen, [])


class BadDrawersTest(Case):
    def test_bad_from_the_begin(self):
        for thing in [*strange(), {}, {0: 0}, {0: 0, 1: 0}, {2: 1}, {0: 1, 2: 1}, {0: 1, 2: 0}, {0: -1},
                      {0: 1, 1: -1},
                      {0: True}, {True: 1}, {False: 1, 1: 1}, {"0": 1}, {0: "1"}, {0: None}, {0: (1, 2)},
                      {(0,): 1},
                      {0: 1, None: 1}, {3: 1}, {-1: 1}, [(0, 1)], ((0, 1),), [1, 1], (1, 1), "01", 1,
                      {0: 1, 1: [1]}, {0: {0: 1}}, {b"0": 1}, {0: Web(1, ())}, {NoName(): 1}]:
            if thing != {0: 1}:
                self.assert_refused(BadDrawer, {"row": ()}, drawn, T, lambda row: thing, (0, 1, 2))
                self.assert_refused(BadDrawer, {"row": ()}, judged, T, lambda row: thing)

    def test_bad_for_a_row(self):
        for row in [(), (0,), (1,), (0, 1), (0, 2), (1, 0)]:
            for thing in (None, {}, {row[0] if row else 2: 1}, {7: 1}):
                def drawer(came):
                    return thing if came == row else front(T)(came)
                self.assert_refused(BadDrawer, {"row": row}, judged, T, drawer)
                for order in brute_orders(T):
                    if order[:len(row)] == row:
                        self.assert_refused(BadDrawer, {"row": row}, drawn, T, drawer, order)
                    else:
                        self.assert_same(drawn(T, drawer, order), chance(T, "front", order))

    def test_whole_rows_are_not_asked_for(self):
        def drawer(row):
            return None if len(row) == 3 else front(T)(row)
        self.assert_same(judged(T, drawer), ((0, 1, 2), (1, 0, 2)))
        self.assert_same(drawn(T, drawer, (0, 1, 2)), (1, 4))

    def test_the_least_row_shorter_ones_first(self):
        web = Web(3, ())
        for bad, row in [([(0, 1), (2,)], (2,)), ([(2, 1), (1, 0)], (1, 0)), ([(2, 0), (2, 1)], (2, 0)),
                         ([(1,), (2,), ()], ()), ([(1, 2), (1, 0), (2, 0)], (1, 0))]:
            def drawer(came):
                return {} if came in bad else {name: 1 for name in sorted(those_free(web, came), reverse=True)}
            self.assert_refused(BadDrawer, {"row": row}, judged, web, drawer)

    def test_rows_without_a_chance_do_not_count(self):
        web = Web(3, ())
        for first in ({1: 1}, {0: 0, 1: 4, 2: 0}):
            def drawer(came):
                return first if not came else None if came[0] != 1 else front(web)(came)
            self.assert_same(judged(web, drawer), ((0, 1, 2), (1, 0, 2)))
            self.assert_same(drawn(web, drawer, (0, 1, 2)), (0, 1))
            self.assert_same(drawn(web, drawer, (1, 2, 0)), (1, 2))

    def test_errors_go_on(self):
        for error in (KeyError("x"), ValueError(), NoName(), BadDrawer(7), StopIteration(),
                      KeyboardInterrupt()):
            def drawer(row):
                raise error
            for function, args in [(drawn, (T, drawer, (0, 1, 2))), (judged, (T, drawer))]:
                with self.assertRaises(type(error)) as caught:
                    function(*args)
                self.assertIs(caught.exception, error)

    def test_what_is_returned_stays_as_it_was(self):
        kept = {0: 2, 1: 5}
        given = {(): kept, (0,): {1: 1, 2: 3}, (1,): {0: 1}, (0, 1): {2: 1}, (0, 2): {1: 1}, (1, 0): {2: 9}}
        before = repr(given)
        judged(T, given.get)
        self.assert_same(drawn(T, given.get, (0, 2, 1)), (3, 14))
        self.assert_same(drawn(N, front(N), (1, 0, 3, 2)), (1, 8))
        self.assertEqual(repr(given), before)


if __name__ == "__main__":
    unittest.main()
