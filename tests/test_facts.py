"""All facts of the document, over the whole program, for all webs of up to 4 names."""

import unittest
from fractions import Fraction
from math import factorial, prod

from evenorders.asks import fewest_asks, most_asks, no_saving, saving
from evenorders.books import even_book
from evenorders.callings import an_n, calling, count_callings, end_even, even_calling, two_pairs
from evenorders.favour import fair, favour, least_uneven, unevenness
from evenorders.levels import levels, three, unlike
from evenorders.lines import lines, widest
from evenorders.listing import webs
from evenorders.nearest import gap_unevenness
from evenorders.orders import count, orders
from evenorders.reading import read_term, read_web
from evenorders.rings import ring
from evenorders.strangers import judged
from evenorders.terms import term_count, term_of, web_of
from evenorders.texts import term_text, web_text
from evenorders.tickets import even_tickets, hooks, is_forest, tickets
from evenorders.trees import ask_tree
from evenorders.ways import chances, even, likeliest, unlikeliest
from evenorders.webs import may_come, open_pairs
from tests.common import Case

WEBS = [web for many in (1, 2, 3, 4) for web in webs(many)]
WAYS = ("front", "back", "numbers")


class FactsTest(Case):
    def test_all_webs(self):
        self.assertEqual([len(webs(many)) for many in (1, 2, 3, 4)], [1, 3, 19, 219])

    def test_the_zeroth_fact(self):
        for web in WEBS:
            self.assertEqual(len(lines(web)), len(widest(web)))

    def test_the_first_fact(self):
        for web in WEBS:
            self.assert_flag(levels(web) is None, three(web) is not None)
            for way in WAYS:
                is_even = levels(web) is not None
                self.assert_flag(even(web, way), is_even)
                self.assert_flag(len(set(chances(web, way).values())) == 1, is_even)
                self.assert_flag(unlike(web, way) is None, is_even)
                self.assert_flag(likeliest(web, way)[0] == unlikeliest(web, way)[0], is_even)
                self.assert_flag(unevenness(web, way) == (0, 1), is_even)
                self.assertEqual(sum(Fraction(*part) for part in favour(web, way)), 0)
                if is_even:
                    self.assert_flag(fair(web, way), True)
                    self.assert_same(least_uneven(web), WAYS)
            self.assert_flag(even_book(web, (("front",),)), levels(web) is not None)
            self.assert_flag(even_book(web, (("back",),)), levels(web) is not None)

    def test_the_second_fact(self):
        for web in WEBS:
            barred = an_n(web) is not None or two_pairs(web) is not None
            self.assert_flag(calling(web) is None, barred)
            self.assert_flag(count_callings(web) == 0, barred)
            if not barred:
                self.assert_flag(even_calling(web, calling(web)), True)
                self.assert_flag(end_even(web, calling(web)), True)
                self.assert_same(gap_unevenness(web, calling(web)), (0, 1))

    def test_the_third_fact(self):
        for web in WEBS:
            term = term_of(web)
            self.assert_flag(term is None, an_n(web) is not None)
            if term is not None:
                self.assert_same(web_of(term), web)
                self.assert_same(term_count(term), count(web))
                self.assert_same(read_term(term_text(term)), term)

    def test_the_fourth_fact(self):
        for web in WEBS:
            given = tickets(web)
            self.assertEqual([given, ring(web)].count(None), 1)
            if given is not None:
                self.assert_flag(even_tickets(web, given), True)
                self.assert_same(judged(web, lambda row: drawer_by(web, given, row)), None)

    def test_the_fifth_fact(self):
        for web in WEBS:
            if is_forest(web):
                self.assert_flag(even_tickets(web, hooks(web)), True)
                self.assertEqual(count(web), factorial(web.many) // prod(hooks(web)))

    def test_the_sixth_fact(self):
        for web in WEBS:
            self.assertEqual(most_asks(web), len(open_pairs(web)))
            self.assertLessEqual(fewest_asks(web), most_asks(web))
            self.assertLessEqual(len(orders(web)), 2 ** fewest_asks(web))
            self.assertEqual(depth(ask_tree(web)), fewest_asks(web))

    def test_the_seventh_fact(self):
        for web in WEBS:
            self.assert_flag(no_saving(web), saving(web) is None)
            self.assert_flag(no_saving(web), fewest_asks(web) == len(open_pairs(web)))
            self.assert_flag(no_saving(web), fewest_asks(web) == most_asks(web))

    def test_webs_there_and_back(self):
        for web in WEBS:
            self.assert_same(read_web(web_text(web)), web)


def drawer_by(web, given, row):
    return {name: given[name] for name in may_come(web, tuple(sorted(row)))}


def depth(tree):
    return 0 if len(tree) == 2 else 1 + max(depth(tree[2]), depth(tree[3]))


if __name__ == "__main__":
    unittest.main()
