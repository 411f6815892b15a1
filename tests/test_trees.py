"""9.2: trees of asks; 0.2 to 0.5 for them."""

import unittest
from itertools import permutations

from evenorders.asks import fewest_asks
from evenorders.errors import NoOrder, NoTree, TooMany
from evenorders.trees import ask_tree, asked, is_tree
from evenorders.webs import Web
from tests.common import APART8, F, FEW_WEBS, GREATER_WEBS, N, ONE, ROW8, T
from tests.common import Case, brute_orders, nested, strange
from tests.games import by_answers, game_of, open_in

FIVES = [web for web in GREATER_WEBS if web.many == 5]
T_TREE = (0, 1, (1, 2, ("order", (0, 1, 2)), ("order", (0, 2, 1))), ("order", (1, 0, 2)))


def depth(tree):
    return 0 if len(tree) == 2 else 1 + max(depth(tree[2]), depth(tree[3]))


def brute_is_tree(rows, tree):
    """Whether a thing that has the form of a tree is one for these orders."""
    if len(tree) == 2:
        return rows == [tree[1]]
    one, other = tree[:2]
    if tuple(sorted((one, other))) not in open_in(rows):
        return False
    first, second = by_answers(rows, one, other)
    return brute_is_tree(first, tree[2]) and brute_is_tree(second, tree[3])


def tree_by(rows, choose):
    """A tree whose asks are chosen, deeper than need be or not."""
    pairs = open_in(rows)
    if not pairs:
        return ("order", rows[0])
    one, other = choose(pairs)
    first, second = by_answers(rows, one, other)
    return (one, other, tree_by(first, choose), tree_by(second, choose))


CHOICES = [min, max, lambda pairs: pairs[0][::-1], lambda pairs: pairs[len(pairs) // 2],
           lambda pairs: pairs[-1][::-1]]


def changed(tree):
    """All that comes of a tree if one thing in it is changed."""
    if len(tree) == 2:
        order = tree[1]
        rows = [order[::-1], order[1:], (*order, 7), list(order), (*order[:-1], True), order * 2]
        return [("order", row) for row in rows if row != order] + [
            order, ("order",), ("order", order, order), ["order", order], ("Order", order),
            ("order", (order,)), (b"order", order), None, (0, 1, tree, tree)]
    one, other, first, second = tree
    found = [(other, one, first, second), (one, one, first, second), (one, 7, first, second),
             (one, other, second, first), (one, other, first), (one, other, first, second, second),
             [one, other, first, second], (one, other, first, first), (one, other, None, second),
             (one, other, first, ()), ("order", tree), ((one, other), first, second), (one, other),
             (str(one), other, first, second), (bool(one), other, first, second)]
    found += [(one, other, part, second) for part in changed(first)]
    return found + [(one, other, first, part) for part in changed(second)]


class AskTreeTest(Case):
    def test_by_hand(self):
        self.assert_same(ask_tree(ONE), ("order", (0,)))
        self.assert_same(ask_tree(Web(5, ((0, 1), (1, 2), (2, 3), (3, 4)))), ("order", (0, 1, 2, 3, 4)))
        self.assert_same(ask_tree(Web(3, ((0, 1), (2, 0)))), ("order", (2, 0, 1)))
        self.assertEqual(depth(ask_tree(T)), 2)
        self.assertEqual(depth(ask_tree(Web(4, ()))), 5)

    def test_of_the_least_depth(self):
        for web in FEW_WEBS + FIVES:
            tree = ask_tree(web)
            self.assertTrue(brute_is_tree(brute_orders(web), tree))
            self.assert_flag(is_tree(web, tree), True)
            self.assertEqual(depth(tree), fewest_asks(web))
            if web.many < 5:
                self.assertEqual(depth(tree), game_of(web).sum(brute_orders(web)))

    def test_too_many(self):
        for web in (Web(6, ()), Web(6, ((0, 1), (1, 2), (2, 3), (3, 4), (4, 5))), ROW8, APART8):
            self.assert_refused(TooMany, {"most": 5}, ask_tree, web)


class IsTreeTest(Case):
    def test_trees(self):
        self.assert_flag(is_tree(T, T_TREE), True)
        self.assert_flag(is_tree(ONE, ("order", (0,))), True)
        self.assert_flag(is_tree(ROW8, ("order", tuple(range(8)))), True)
        for web in FEW_WEBS + GREATER_WEBS[1:]:
            for choose in CHOICES:
                if len(brute_orders(web)) <= 150:
                    self.assert_flag(is_tree(web, tree_by(brute_orders(web), choose)), True)

    def test_deeper_than_need_be(self):
        web = Web(5, ((0, 1), (1, 2), (2, 3)))
        slow = (0, 4, (1, 4, (2, 4, (3, 4, ("order", (0, 1, 2, 3, 4)), ("order", (0, 1, 2, 4, 3))),
                              ("order", (0, 1, 4, 2, 3))), ("order", (0, 4, 1, 2, 3))),
                ("order", (4, 0, 1, 2, 3)))
        self.assert_flag(is_tree(web, slow), True)
        self.assertEqual(depth(slow), 4)
        self.assertEqual(depth(ask_tree(web)), 3)

    def test_trees_for_another_web(self):
        trees = [(web, tree_by(brute_orders(web), min)) for web in FEW_WEBS[:23] + FEW_WEBS[23::11]]
        for web, _ in trees:
            for _, tree in trees:
                self.assert_flag(is_tree(web, tree), brute_is_tree(brute_orders(web), tree))

    def test_what_is_known_is_not_asked(self):
        known = (0, 2, T_TREE, ("order", (2, 0, 1)))
        self.assert_flag(is_tree(T, known), False)
        again = (0, 1, (0, 1, T_TREE[2], T_TREE[2]), T_TREE[3])
        self.assert_flag(is_tree(T, again), False)
        self.assert_flag(is_tree(ONE, (0, 1, ("order", (0,)), ("order", (0,)))), False)
        self.assert_flag(is_tree(Web(3, ()), ("order", (0, 1, 2))), False)

    def test_one_thing_changed(self):
        for web in (T, N, ONE, F):
            tree = ask_tree(web)
            things = changed(tree)
            self.assertGreater(len(things), 5)
            for thing in things:
                self.assert_flag(is_tree(web, thing), False)
        self.assert_flag(is_tree(T, (1, 0, T_TREE[3], T_TREE[2])), True)

    def test_strange_things(self):
        for thing in strange():
            self.assert_flag(is_tree(T, thing), False)
            self.assert_flag(is_tree(T, ("order", thing)), False)
            self.assert_flag(is_tree(T, (0, 1, thing, T_TREE[3])), False)
            self.assert_flag(is_tree(T, (0, 1, T_TREE[2], thing)), False)
            self.assert_flag(is_tree(T, (thing, 1, T_TREE[2], T_TREE[3])), False)
            self.assert_flag(is_tree(T, (0, thing, T_TREE[2], T_TREE[3])), False)
            self.assert_flag(is_tree(T, (thing, (0, 1, 2))), False)


class AskedTest(Case):
    def test_by_hand(self):
        self.assert_same(asked(T_TREE, (0, 1, 2)), [(0, 1), (1, 2)])
        self.assert_same(asked(T_TREE, (1, 0, 2)), [(0, 1)])
        self.assert_same(asked((1, 0, ("order", (1, 0)), ("order", (0, 1))), (0, 1)), [(1, 0)])
        self.assert_same(asked(("order", (5, 3)), (5, 3)), [])

    def test_of_trees(self):
        for web in FEW_WEBS[:60] + FIVES:
            for choose in CHOICES:
                tree = tree_by(brute_orders(web), choose)
                for order in brute_orders(web):
                    found = asked(tree, order)
                    rows = brute_orders(web)
                    for one, other in found:
                        self.assertIn(tuple(sorted((one, other))), open_in(rows))
                        rows = next(part for part in by_answers(rows, one, other) if order in part)
                    self.assertEqual(rows, [order])
                    self.assertLessEqual(len(found), depth(tree))
                for order in permutations(range(web.many)):
                    if web.many < 5 and order not in brute_orders(web):
                        self.assert_refused(NoOrder, {}, asked, tree, order)

    def test_trees_that_are_for_no_web(self):
        same = (0, 1, (0, 1, ("order", (0, 1)), ("order", (1, 0))), ("order", (6, 7)))
        self.assert_same(asked(same, (0, 1)), [(0, 1), (0, 1)])
        self.assert_refused(NoOrder, {}, asked, same, (1, 0))
        self.assert_refused(NoOrder, {}, asked, same, (6, 7))
        self.assert_same(asked((7, 3, ("order", (7, 3, 0)), ("order", (5,))), (7, 3, 0)), [(7, 3)])
        deep = ("order", (2, 6))
        for _ in range(38):
            deep = (2, 6, deep, ("order", ()))
        self.assert_same(asked(deep, (2, 6)), [(2, 6)] * 38)

    def test_no_tree(self):
        for thing in [*strange(), (), ("order",), ["order", (0, 1)], ("order", [0, 1]), ("order", (0, 8)),
                      ("order", (0, 0)), ("order", (-1, 0)), ("order", (0, True)), ("order", (0, "1")),
                      ("order", (0, 1), ()), ("tree", (0, 1)), (0, 1, ("order", (0, 1))),
                      (0, 1, T_TREE, T_TREE, T_TREE), [0, 1, T_TREE, T_TREE], (0, 0, T_TREE, T_TREE),
                      (0, 8, T_TREE, T_TREE), (-1, 0, T_TREE, T_TREE), (False, 1, T_TREE, T_TREE),
                      (0, True, T_TREE, T_TREE), ("0", 1, T_TREE, T_TREE), ((0, 1), 2, T_TREE, T_TREE)]:
            self.assert_refused(NoTree, {}, asked, thing, (0, 1, 2))
            self.assert_refused(NoTree, {}, asked, thing, None)
            # Also where the way to the order does not come to it.
            self.assert_refused(NoTree, {}, asked, (0, 1, T_TREE, thing), (0, 1, 2))
            self.assert_refused(NoTree, {}, asked, (1, 0, thing, T_TREE), (0, 1, 2))

    def test_no_order(self):
        for thing in [*strange(), (), (0, 1), (0, 2), (1, 2), (2, 1, 0), (1, 2, 0), (0, 1, 2, 2),
                      [0, 1, 2], (0, True, 2), (False, 1, 2), (0, 1, 2, 3), (0, 1, 8), (0, 1, -2), (0, 1, "2")]:
            self.assert_refused(NoOrder, {}, asked, T_TREE, thing)
            self.assert_refused(NoOrder, {}, asked, ("order", (4, 5)), thing)

    def test_an_asked_name_is_lacking(self):
        tree = (0, 1, ("order", (0,)), ("order", (1, 0)))
        self.assert_refused(NoOrder, {}, asked, tree, (0,))
        self.assert_refused(NoOrder, {}, asked, tree, (1,))
        self.assert_refused(NoOrder, {}, asked, tree, ())
        self.assert_same(asked(tree, (1, 0)), [(0, 1)])

    def test_which_error_comes_first(self):
        self.assert_refused(NoTree, {}, asked, None, None)
        self.assert_refused(NoTree, {}, asked, (0, 1, T_TREE, ("order", (0, 0))), [0])

    def test_nested_deep(self):
        for wrap in (lambda thing: (0, 1, thing, thing), lambda thing: ("order", thing)):
            thing = nested(11, wrap)
            self.assert_refused(NoTree, {}, asked, thing, (0, 1))
            self.assert_flag(is_tree(T, thing), False)
        for wrap in (lambda thing: (0, 1, ("order", (0, 1, 2)), thing),
                     lambda thing: (0, 1, thing, ("order", (0, 1, 2)))):
            thing = nested(39, wrap)
            self.assert_refused(NoTree, {}, asked, thing, (0, 1))
            self.assert_flag(is_tree(T, thing), False)

    def test_lists_are_new(self):
        self.assert_new(asked, T_TREE, (0, 1, 2))
        self.assert_new(asked, ("order", (0, 1)), (0, 1))


if __name__ == "__main__":
    unittest.main()
