"""10.1: all webs of few names, kinds and sorts; 0.2 to 0.5 for them; example e12."""

import unittest
from itertools import permutations

from evenorders.errors import NoNumber, NoSort
from evenorders.listing import count_webs, kinds, sorts, webs
from evenorders.webs import Web
from tests.common import ALMOST_LEVELS8, APART8, F, FEW_WEBS, LEVELS8, N, ONE, ROW8, T
from tests.common import Case, strange, strange_but
from tests.games import game_of
from tests.rows import brute_is_even
from tests.test_levels import brute_levels
from tests.test_terms import TERMS, told_web
from tests.test_tickets import brute_tickets

SORTS = ("all", "levels", "callings", "terms", "tickets", "forests", "no saving")
VEE = Web(4, ((0, 3), (1, 3)))
NUMBERS = {
    "all": [1, 2, 5, 16], "levels": [1, 2, 4, 8], "callings": [1, 2, 5, 14], "terms": [1, 2, 5, 15],
    "tickets": [1, 2, 5, 15], "forests": [1, 2, 4, 9], "no saving": [1, 2, 5, 10],
}


class WebsTest(Case):
    def test_e12(self):
        self.assert_same([len(kinds(many)) for many in (1, 2, 3, 4)], [1, 2, 5, 16])

    def test_webs(self):
        self.assert_same(webs(1), [ONE])
        self.assert_same(webs(2), [Web(2, ()), Web(2, ((0, 1),)), Web(2, ((1, 0),))])
        self.assert_same([len(webs(many)) for many in (1, 2, 3, 4)], [1, 3, 19, 219])
        for many in (1, 2, 3, 4):
            found = [web for web in FEW_WEBS if web.many == many]
            self.assert_same(webs(many), sorted(found, key=lambda web: web.befores))

    def test_kinds(self):
        self.assert_same(kinds(2), [Web(2, ()), Web(2, ((0, 1),))])
        self.assert_same(kinds(3), [Web(3, ()), Web(3, ((0, 1),)), Web(3, ((0, 1), (0, 2))),
                                    Web(3, ((0, 1), (1, 2))), Web(3, ((0, 1), (2, 1)))])
        for many in (1, 2, 3, 4):
            least = {min(renamings(web)) for web in FEW_WEBS if web.many == many}
            self.assert_same(kinds(many), [Web(many, befores) for befores in sorted(least)])

    def test_lists_are_new(self):
        for many in (1, 2, 3, 4):
            self.assert_new(webs, many)
            self.assert_new(kinds, many)

    def test_no_number(self):
        for thing in [*strange_but(3), 0, 5, -1, 8, True, "3", (3,), [3], 10 ** 59]:
            self.assert_refused(NoNumber, {}, webs, thing)
            self.assert_refused(NoNumber, {}, kinds, thing)
            self.assert_refused(NoNumber, {}, count_webs, thing, "all")


def renamings(web):
    return [tuple(sorted((names[one], names[other]) for one, other in web.befores))
            for names in permutations(range(web.many))]


def brute_is_forest(web):
    straight = [(one, other) for one, other in web.befores if not any(
        (one, name) in web.befores and (name, other) in web.befores for name in range(web.many))]
    return all(len([1 for _, other in straight if other == name]) < 2 for name in range(web.many))


class SortsTest(Case):
    def test_count_webs(self):
        for sort, numbers in NUMBERS.items():
            self.assert_same([count_webs(many, sort) for many in (1, 2, 3, 4)], numbers)

    def test_count_webs_is_by_kinds(self):
        for many in (1, 2, 3, 4):
            for sort in SORTS:
                self.assert_same(count_webs(many, sort),
                                 len([web for web in kinds(many) if sort in sorts(web)]))

    def test_sorts(self):
        self.assert_same(sorts(ONE), SORTS)
        self.assert_same(sorts(ROW8), SORTS)
        self.assert_same(sorts(APART8), SORTS[:-1])
        self.assert_same(sorts(LEVELS8), ("all", "levels", "callings", "terms", "tickets"))
        self.assert_same(sorts(ALMOST_LEVELS8), ("all",))
        self.assert_same(sorts(F), SORTS)
        self.assert_same(sorts(T), ("all", "callings", "terms", "tickets", "forests", "no saving"))
        self.assert_same(sorts(N), ("all", "tickets", "no saving"))
        self.assert_same(sorts(VEE), ("all", "callings", "terms"))
        self.assert_same(sorts(Web(4, ((0, 2), (1, 3)))), ("all", "terms", "tickets", "forests"))
        self.assert_same(sorts(Web(3, ((0, 2), (1, 2)))),
                         ("all", "levels", "callings", "terms", "tickets", "no saving"))

    def test_against_what_the_document_says_of_each_sort(self):
        told = [told_web(term) for term in TERMS]
        for web in [web for many in (1, 2, 3, 4) for web in kinds(many)]:
            game = game_of(web)
            fits = [True, brute_levels(web) is not None,
                    any(brute_is_even(web, calling) for calling in permutations(range(web.many))),
                    web in told, brute_tickets(web, 4) is not None, brute_is_forest(web),
                    game.sum(game.rows) == game_of(web, best=max).sum(game.rows)]
            self.assert_same(sorts(web), tuple(word for word, fit in zip(SORTS, fits) if fit))

    def test_sorts_are_alike_for_renamed_webs(self):
        for web in FEW_WEBS[::3]:
            self.assert_same(sorts(web), sorts(Web(web.many, min(renamings(web)))))

    def test_no_sort(self):
        for thing in [*strange(), "All", "all ", "", "no  saving", "saving", "term", ("all",), ["all"],
                      "all,levels", b"all", SORTS]:
            self.assert_refused(NoSort, {}, count_webs, 4, thing)

    def test_which_error_comes_first(self):
        self.assert_refused(NoNumber, {}, count_webs, 0, "none")
        self.assert_refused(NoNumber, {}, count_webs, None, None)


if __name__ == "__main__":
    unittest.main()
