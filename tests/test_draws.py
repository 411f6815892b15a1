"""11.1: draws led by deeds; 0.2 to 0.5 for them."""

import unittest
from fractions import Fraction
from itertools import permutations

from evenorders.draws import Draw
from evenorders.errors import NoBefore, NoName, NothingDone
from evenorders.orders import count, orders
from evenorders.shares import next_shares
from evenorders.webs import Web
from tests.brute import pair_of
from tests.common import APART8, F, FEW_WEBS, GREATER_WEBS, LEVELS8, N, ONE, ROW8, T
from tests.common import Case, exact, strange, strange_but

CHAIN = Web(3, ((0, 1), (1, 2)))


def told(draw):
    """All that a draw tells."""
    return exact([draw.front(), draw.back_row(), draw.may_come(), draw.may_end(), draw.left(),
                  draw.rest(), draw.shares(), draw.deeds()])


def can_be_done(draw):
    """All deeds that can be done, as method's name and arguments."""
    left = draw.left()
    pairs = [(one, other) for one in left for other in left if one != other]
    return ([("come", name) for name in draw.may_come()] + [("end", name) for name in draw.may_end()]
            + [("leave", name) for name in left]
            + [("learn", *pair) for pair in pairs if learns(draw.copy(), pair)])


def learns(draw, pair):
    try:
        draw.learn(*pair)
    except NoBefore:
        return False
    return True


def do(draw, deed):
    return getattr(draw, deed[0])(*deed[1:])


class Model:
    """A draw worked out from all rows of all names that befores told and learned allow."""

    def __init__(self, web):
        self.names = range(web.many)
        self.befores = list(web.befores)
        self.front, self.back, self.out = (), (), ()

    def do(self, deed):
        if deed[0] == "come":
            self.front = (*self.front, deed[1])
        elif deed[0] == "end":
            self.back = (deed[1], *self.back)
        elif deed[0] == "leave":
            self.out = (*self.out, deed[1])
        else:
            self.befores.append(deed[1:])

    def told(self, deeds):
        gone = self.front + self.back + self.out
        left = tuple(name for name in self.names if name not in gone)
        rows = {tuple(name for name in row if name in left) for row in permutations(self.names)
                if all(row.index(one) < row.index(other) for one, other in self.befores)}
        firsts = sorted({row[0] for row in rows if row})
        shares = {name: pair_of(Fraction(len([1 for row in rows if row[0] == name]), len(rows)))
                  for name in firsts}
        lasts = sorted({row[-1] for row in rows if row})
        return exact([self.front, self.back, tuple(firsts), tuple(lasts), left, len(rows), shares, deeds])


class LedTest(Case):
    def assert_told(self, draw, *expected):
        self.assert_same([draw.front(), draw.back_row(), draw.may_come(), draw.may_end(), draw.left(),
                          draw.rest(), draw.shares(), draw.deeds()], list(expected))

    def test_by_hand(self):
        draw = Draw(T)
        self.assert_told(draw, (), (), (0, 1), (1, 2), (0, 1, 2), 3, {0: (2, 3), 1: (1, 3)}, 0)
        self.assertIs(draw.come(0), None)
        self.assert_told(draw, (0,), (), (1, 2), (1, 2), (1, 2), 2, {1: (1, 2), 2: (1, 2)}, 1)
        self.assertIs(draw.end(2), None)
        self.assert_told(draw, (0,), (2,), (1,), (1,), (1,), 1, {1: (1, 1)}, 2)
        self.assertIs(draw.end(1), None)
        self.assert_told(draw, (0,), (1, 2), (), (), (), 1, {}, 3)
        self.assertIs(draw.undo(), None)
        self.assertIs(draw.come(1), None)
        self.assert_told(draw, (0, 1), (2,), (), (), (), 1, {}, 3)

    def test_one_name(self):
        draw = Draw(ONE)
        self.assert_told(draw, (), (), (0,), (0,), (0,), 1, {0: (1, 1)}, 0)
        draw.leave(0)
        self.assert_told(draw, (), (), (), (), (), 1, {}, 1)
        self.assert_refused(NoName, {}, draw.come, 0)
        draw.undo()
        draw.end(0)
        self.assert_told(draw, (), (0,), (), (), (), 1, {}, 1)

    def test_as_many_ways_as_orders(self):
        for web in FEW_WEBS + GREATER_WEBS + [ROW8, LEVELS8, APART8]:
            draw = Draw(web)
            self.assert_same(draw.rest(), count(web))
            self.assert_same(draw.shares(), next_shares(web, ()))

    def test_led_to_its_end(self):
        for web in FEW_WEBS[::7] + GREATER_WEBS[1:4]:
            for order in orders(web):
                for at_end in range(2 ** web.many):
                    if web.many > 4 and at_end % 11:
                        continue
                    draw = Draw(web)
                    left = order
                    for at in range(web.many):
                        if at_end >> at & 1:
                            draw.end(left[-1])
                            left = left[:-1]
                        else:
                            draw.come(left[0])
                            left = left[1:]
                    self.assertEqual(draw.front() + draw.back_row(), order)
                    self.assert_same([draw.left(), draw.rest(), draw.shares(), draw.deeds()],
                                     [(), 1, {}, web.many])

    def test_who_stands_between_leaves(self):
        draw = Draw(CHAIN)
        draw.leave(1)
        self.assert_told(draw, (), (), (0,), (2,), (0, 2), 1, {0: (1, 1)}, 1)
        self.assert_refused(NoName, {}, draw.come, 2)
        self.assert_refused(NoBefore, {}, draw.learn, 2, 0)
        draw = Draw(Web(3, ()))
        draw.learn(0, 1)
        draw.learn(1, 2)
        draw.leave(1)
        self.assert_told(draw, (), (), (0,), (2,), (0, 2), 1, {0: (1, 1)}, 3)
        draw = Draw(CHAIN)
        draw.leave(0)
        self.assert_told(draw, (), (), (1,), (2,), (1, 2), 1, {1: (1, 1)}, 1)

    def test_learned_befores_that_follow_already(self):
        draw = Draw(CHAIN)
        for pair in [(0, 1), (0, 2), (0, 2)]:
            self.assertIs(draw.learn(*pair), None)
        self.assert_told(draw, (), (), (0,), (2,), (0, 1, 2), 1, {0: (1, 1)}, 3)
        draw.undo()
        self.assert_same(draw.deeds(), 2)

    def test_what_follows_from_what_is_learned(self):
        draw = Draw(Web(4, ((0, 1), (2, 3))))
        draw.learn(1, 2)
        self.assert_told(draw, (), (), (0,), (3,), (0, 1, 2, 3), 1, {0: (1, 1)}, 1)
        self.assert_refused(NoBefore, {}, draw.learn, 3, 0)

    def test_against_all_rows(self):
        for web in [ONE, Web(2, ()), Web(2, ((1, 0),)), T, F, CHAIN, Web(3, ())]:
            self.lead(web, [], 4 if web.many < 3 else 3)
        for at, web in enumerate([N, *FEW_WEBS[30::13], *GREATER_WEBS[1:5]]):
            draw, deeds = Draw(web), []
            for step in range(12):
                possible = can_be_done(draw)
                if possible:
                    deeds.append(possible[(at * 5 + step * 7) % len(possible)])
                    do(draw, deeds[-1])
                    self.assertEqual(told(draw), modelled(web, deeds))

    def lead(self, web, deeds, most):
        draw = Draw(web)
        for deed in deeds:
            do(draw, deed)
        self.assertEqual(told(draw), modelled(web, deeds))
        for deed in can_be_done(draw) if most else []:
            self.lead(web, [*deeds, deed], most - 1)


def modelled(web, deeds):
    model = Model(web)
    for deed in deeds:
        model.do(deed)
    return model.told(len(deeds))


class BackTest(Case):
    def test_undo(self):
        for web in [T, N, *GREATER_WEBS[1:4]]:
            draw, seen = Draw(web), []
            for step in range(9):
                possible = can_be_done(draw)
                if possible:
                    seen.append(told(draw))
                    do(draw, possible[step * 5 % len(possible)])
            for before in reversed(seen):
                self.assertIs(draw.undo(), None)
                self.assertEqual(told(draw), before)
            self.assert_refused(NothingDone, {}, draw.undo)
            self.assertEqual(told(draw), told(Draw(web)))
            draw.come(draw.may_come()[0])
            self.assert_same(draw.deeds(), 1)

    def test_copies_go_on_apart(self):
        draw = Draw(T)
        draw.come(0)
        copied = draw.copy()
        self.assertIsInstance(copied, Draw)
        self.assertIsNot(copied, draw)
        self.assertEqual(told(copied), told(draw))
        copied.come(2)
        draw.end(2)
        draw.end(1)
        self.assert_same([copied.front(), copied.back_row(), copied.left()], [(0, 2), (), (1,)])
        self.assert_same([draw.front(), draw.back_row(), draw.left()], [(0,), (1, 2), ()])
        for _ in range(2):
            copied.undo()
        self.assertEqual(told(copied), told(Draw(T)))
        self.assert_refused(NothingDone, {}, copied.undo)
        self.assert_same(draw.deeds(), 3)
        for _ in range(3):
            draw.undo()
        self.assertEqual(told(draw), told(Draw(T)))

    def test_a_failed_deed_changes_nothing(self):
        draw = Draw(N)
        draw.come(1)
        draw.leave(3)
        before = told(draw)
        for name in [1, 2, 3, 4, -1]:
            self.assert_refused(NoName, {}, draw.come, name)
        for name in [0, 1, 3]:
            self.assert_refused(NoName, {}, draw.end, name)
        for name in [1, 3]:
            self.assert_refused(NoName, {}, draw.leave, name)
            self.assert_refused(NoName, {}, draw.learn, name, 0)
            self.assert_refused(NoName, {}, draw.learn, 0, name)
            self.assert_refused(NoName, {}, draw.learn, name, name)
        self.assert_refused(NoBefore, {}, draw.learn, 2, 0)
        self.assert_refused(NoBefore, {}, draw.learn, 0, 0)
        self.assertEqual(told(draw), before)
        draw.undo()
        draw.undo()
        self.assertEqual(told(draw), told(Draw(N)))

    def test_dicts_are_new(self):
        draw = Draw(T)
        self.assert_new(draw.shares)
        for name in (0, 1, 2):
            draw.come(name)
        self.assert_new(draw.shares)

    def test_the_web_stays_as_it_was(self):
        web = Web(3, ())
        draw = Draw(web)
        draw.learn(0, 1)
        draw.come(2)
        self.assert_same(web, Web(3, ()))
        self.assertEqual(Draw(web).may_come(), (0, 1, 2))


class TryingTest(Case):
    def test_trying(self):
        draw = Draw(T)
        draw.come(0)
        before = told(draw)
        seen = []

        def action(other):
            self.assertIs(other, draw)
            other.end(1)
            other.come(2)
            seen.append((other.front(), other.back_row(), other.deeds()))
            return seen

        self.assertIs(draw.trying(action), seen)
        self.assert_same(seen, [((0, 2), (1,), 3)])
        self.assertEqual(told(draw), before)
        draw.undo()
        self.assertEqual(told(draw), told(Draw(T)))

    def test_undoing_more_than_was_done(self):
        draw = Draw(T)
        draw.come(0)
        draw.learn(2, 1)
        before = told(draw)

        def action(other):
            other.come(2)
            for _ in range(3):
                other.undo()
            other.come(1)
            return other.front()

        self.assert_same(draw.trying(action), (1,))
        self.assertEqual(told(draw), before)
        self.assertIs(draw.trying(Draw.undo), None)
        self.assertEqual(told(draw), before)
        draw.undo()
        draw.undo()
        self.assertEqual(told(draw), told(Draw(T)))

    def test_errors_go_on(self):
        draw = Draw(T)
        draw.come(1)
        before = told(draw)
        for error in (KeyError("x"), NoName(), ZeroDivisionError(), StopIteration(), KeyboardInterrupt()):
            def action(other):
                other.come(0)
                other.leave(2)
                raise error
            with self.assertRaises(type(error)) as caught:
                draw.trying(action)
            self.assertIs(caught.exception, error)
            self.assertEqual(told(draw), before)
        self.assert_refused(NoName, {}, draw.trying, lambda other: [other.come(0), other.come(0)])
        self.assert_refused(NothingDone, {}, draw.trying, lambda other: [other.undo(), other.undo()])
        self.assertEqual(told(draw), before)

    def test_trying_within_trying(self):
        draw = Draw(N)

        def inner(other):
            other.come(0)
            return (other.front(), other.deeds())

        def outer(other):
            other.come(1)
            return (other.trying(inner), other.front(), other.trying(lambda one: one.rest()))

        self.assert_same(draw.trying(outer), (((1, 0), 2), (1,), 3))
        self.assert_same([draw.front(), draw.deeds()], [(), 0])

    def test_copies_made_while_trying_stay(self):
        draw = Draw(T)

        def action(other):
            other.come(1)
            return other.copy()

        copied = draw.trying(action)
        self.assert_same([copied.front(), copied.deeds(), draw.front()], [(1,), 1, ()])
        copied.undo()
        self.assertEqual(told(copied), told(draw))
        self.assertIs(draw.trying(lambda other: other), draw)
        self.assertIs(draw.trying(lambda other: None), None)


class WrongNamesTest(Case):
    def test_no_name(self):
        draw = Draw(Web(3, ()))
        for thing in [*strange(), (), "1", True, False, [1], (1,)]:
            for method in (draw.come, draw.end, draw.leave):
                self.assert_refused(NoName, {}, method, thing)
            self.assert_refused(NoName, {}, draw.learn, thing, 1)
            self.assert_refused(NoName, {}, draw.learn, 1, thing)
            self.assert_refused(NoName, {}, draw.learn, thing, thing)
        draw = Draw(APART8)
        for thing in strange_but(3):
            self.assert_refused(NoName, {}, draw.come, thing)
        self.assert_same(draw.deeds(), 0)

    def test_equal_to_nothing_else(self):
        draw = Draw(T)
        for thing in [*strange(), T, Draw]:
            self.assert_flag(draw == thing, False)
            self.assert_flag(thing == draw, False)
        self.assert_flag(draw == draw, True)


if __name__ == "__main__":
    unittest.main()
