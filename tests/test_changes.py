"""4.2: the fewest changes to levels; 0.2 to 0.5 for them."""

import unittest
from itertools import combinations, permutations

from evenorders.changes import to_levels, to_levels_by
from evenorders.errors import NoWord, TooMany
from evenorders.levels import levels
from evenorders.webs import Web
from tests.common import F, FEW_WEBS, GREATER_WEBS, N, ONE, T, all_webs, is_web
from tests.common import APART8, ROW8, Case, strange

LEVEL_WEBS = {many: [web for web in all_webs(many) if levels(web) is not None]
              for many in (1, 2, 3, 4)}


def all_changes(web):
    pairs = permutations(range(web.many), 2)
    return sorted(("out" if pair in web.befores else "in", *pair) for pair in pairs)


def changed(web, changes):
    """What is there when all changes are done at once."""
    put_in = {(one, other) for word, one, other in changes if word == "in"}
    taken = {(one, other) for word, one, other in changes if word == "out"}
    return tuple(sorted((set(web.befores) - taken) | put_in))


def brute_changes(web, words):
    """The fewest and least changes found by trying all of so many, fewer ones first."""
    possible = [change for change in all_changes(web) if change[0] in words]
    for number in range(len(possible) + 1):
        for changes in combinations(possible, number):
            befores = changed(web, changes)
            if is_web(befores) and Web(web.many, befores) in LEVEL_WEBS[web.many]:
                return (number, changes)


class ChangesTest(Case):
    def test_by_hand(self):
        self.assert_same(to_levels(T), (1, (("in", 0, 1),)))
        self.assert_same(to_levels_by(T, "in"), (1, (("in", 0, 1),)))
        self.assert_same(to_levels_by(T, "out"), (1, (("out", 0, 2),)))
        self.assert_same(to_levels(N), (1, (("in", 0, 3),)))
        self.assert_same(to_levels_by(N, "out"), (3, (("out", 0, 2), ("out", 1, 2), ("out", 1, 3))))
        self.assert_same(to_levels(Web(3, ((2, 0),))), (1, (("in", 1, 0),)))
        self.assert_same(to_levels(Web(4, ((0, 1), (2, 3)))), (2, (("in", 0, 3), ("in", 2, 1))))

    def test_levels_already(self):
        five = [Web(5, ()), Web(5, ((0, 1), (1, 2), (2, 3), (3, 4))),
                Web(5, ((0, 2), (0, 3), (0, 4), (1, 2), (1, 3), (1, 4)))]
        for web in [ONE, F, *five]:
            self.assert_same(to_levels(web), (0, ()))
            self.assert_same(to_levels_by(web, "in"), (0, ()))
            self.assert_same(to_levels_by(web, "out"), (0, ()))

    def test_by_trying_all_changes(self):
        for web in FEW_WEBS:
            self.assert_same(to_levels(web), brute_changes(web, ("in", "out")))
            self.assert_same(to_levels_by(web, "in"), brute_changes(web, ("in",)))
            self.assert_same(to_levels_by(web, "out"), brute_changes(web, ("out",)))

    def test_some_in_and_some_out(self):
        self.assert_same(to_levels(Web(5, ((0, 1), (0, 2), (3, 1), (4, 1)))),
                         (2, (("in", 2, 1), ("out", 0, 2))))
        self.assert_same(to_levels(Web(5, ((1, 0), (1, 3), (2, 3)))),
                         (3, (("in", 0, 3), ("in", 4, 3), ("out", 1, 0))))

    def test_five_names(self):
        self.assert_same(to_levels(Web(5, ((0, 1),))), (1, (("out", 0, 1),)))
        self.assert_same(to_levels_by(Web(5, ((0, 1),)), "in"),
                         (3, (("in", 0, 2), ("in", 0, 3), ("in", 0, 4))))
        for web in [web for web in GREATER_WEBS if web.many == 5]:
            for number, changes in [to_levels(web), to_levels_by(web, "in"),
                                    to_levels_by(web, "out")]:
                self.assertEqual(number, len(changes))
                self.assertEqual(list(changes), sorted(set(changes)))
                made = Web(5, changed(web, changes))
                self.assertEqual(made.befores, changed(web, changes))
                self.assertIsNotNone(levels(made))


class WrongChangesTest(Case):
    def test_no_word(self):
        for thing in [*strange(), "IN", "in ", "inout", "ou", ("in",), ["out"], b"in"]:
            self.assert_refused(NoWord, {}, to_levels_by, T, thing)

    def test_too_many(self):
        for web in [Web(6, ()), Web(6, ((0, 1),)), APART8, ROW8]:
            self.assert_refused(TooMany, {"most": 5}, to_levels, web)
            self.assert_refused(TooMany, {"most": 5}, to_levels_by, web, "in")
            self.assert_refused(TooMany, {"most": 5}, to_levels_by, web, "out")

    def test_which_error_comes_first(self):
        self.assert_refused(NoWord, {}, to_levels_by, APART8, "on")
        self.assert_refused(NoWord, {}, to_levels_by, APART8, None)


if __name__ == "__main__":
    unittest.main()
