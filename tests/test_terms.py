"""6.1: terms; 0.2 to 0.5 for them; example e07."""

import unittest
from itertools import combinations, permutations, product

from evenorders.callings import an_n
from evenorders.errors import NoTerm
from evenorders.orders import count, orders
from evenorders.terms import is_term, term_count, term_of, web_of
from evenorders.webs import Web
from tests.common import ALMOST_LEVELS8, APART8, F, FEW_WEBS, GREATER_WEBS, LEVELS8, N, ONE, ROW8, T
from tests.common import Case, nested, strange

ONES = [("one", name) for name in range(8)]
T_TERM = ("together", (("behind", (ONES[0], ONES[2])), ONES[1]))


def parted(names):
    """All ways to part names into two or more lots, in any order."""
    if len(names) == 1:
        return [[names]]
    found = []
    for rest in parted(names[1:]):
        found += [[*rest[:at], (names[0], *lot), *rest[at + 1:]] for at, lot in enumerate(rest)]
        found += [[*rest[:at], (names[0],), *rest[at:]] for at in range(len(rest) + 1)]
    return found


def all_terms(names):
    if len(names) == 1:
        return [("one", names[0])]
    found = []
    for lots in parted(names):
        if len(lots) > 1:
            for terms in product(*[all_terms(lot) for lot in lots]):
                found += [("behind", terms), ("together", terms)]
    return found


def names_in(term):
    return [term[1]] if term[0] == "one" else [name for part in term[1] for name in names_in(part)]


def is_told(term, one, other):
    """Whether a term tells that one name is ahead of another one."""
    if term[0] == "one":
        return False
    at, to = [[name in names_in(part) for part in term[1]].index(True) for name in (one, other)]
    if at == to:
        return is_told(term[1][at], one, other)
    return term[0] == "behind" and at < to


def told_web(term):
    many = len(names_in(term))
    return Web(many, tuple(pair for pair in permutations(range(many), 2) if is_told(term, *pair)))


def laid(rows):
    """All ways to lay rows into one."""
    if not any(rows):
        return [()]
    return [(row[0], *longer) for at, row in enumerate(rows) if row
            for longer in laid([*rows[:at], row[1:], *rows[at + 1:]])]


def drawn_by_parts(term):
    """What is drawn by parts, each row as often as it is likely."""
    if term[0] == "one":
        return [(term[1],)]
    found = []
    for rows in product(*[drawn_by_parts(part) for part in term[1]]):
        found += [sum(rows, ())] if term[0] == "behind" else laid(list(rows))
    return found


def is_plain(term):
    """Whether no term of behind is one of behind, and none of together one of together, and those
    of together stand ascending by their least names."""
    if term[0] == "one":
        return True
    if any(part[0] == term[0] or not is_plain(part) for part in term[1]):
        return False
    least = [min(names_in(part)) for part in term[1]]
    return term[0] == "behind" or least == sorted(least)


TERMS = [term for many in (1, 2, 3, 4) for term in all_terms(tuple(range(many)))]


class TermsTest(Case):
    def test_e07(self):
        self.assert_same(term_of(T), T_TERM)

    def test_web_of(self):
        self.assert_same(web_of(T_TERM), T)
        self.assert_same(web_of(("one", 0)), ONE)
        self.assert_same(web_of(("behind", tuple(ONES))), ROW8)
        self.assert_same(web_of(("together", tuple(ONES))), APART8)
        self.assert_same(web_of(("behind", (("together", tuple(ONES[:4])),
                                            ("together", tuple(ONES[4:]))))), LEVELS8)
        self.assert_same(web_of(("behind", (ONES[2], ONES[0], ONES[1]))),
                         Web(3, ((0, 1), (2, 0), (2, 1))))
        for term in TERMS:
            self.assert_same(web_of(term), told_web(term))

    def test_behind_in_behind_and_together_in_together(self):
        behind = ("behind", (ONES[0], ("behind", (ONES[1], ("behind", (ONES[2], ONES[3]))))))
        together = ("together", (("together", (ONES[3], ONES[0])), ("together", (ONES[2], ONES[1]))))
        for term, web in [(behind, Web(4, ((0, 1), (1, 2), (2, 3)))), (together, Web(4, ()))]:
            self.assert_flag(is_term(term), True)
            self.assert_same(web_of(term), web)
            self.assert_same(term_count(term), count(web))
        self.assert_same(term_of(web_of(behind)), ("behind", tuple(ONES[:4])))
        self.assert_same(term_of(web_of(together)), ("together", tuple(ONES[:4])))

    def test_is_term(self):
        for term in TERMS:
            self.assert_flag(is_term(term), True)
        deep = ("one", 0)
        for name in range(1, 8):
            deep = (("behind", "together")[name % 2], (deep, ("one", name)))
        self.assert_flag(is_term(deep), True)
        self.assert_same(term_of(web_of(deep)), deep)

    def test_term_of(self):
        self.assert_same(term_of(ONE), ("one", 0))
        self.assert_same(term_of(F), ("behind", (ONES[0], ("together", (ONES[1], ONES[2])))))
        self.assert_same(term_of(N), None)
        self.assert_same(term_of(ALMOST_LEVELS8), None)
        self.assert_same(term_of(ROW8), ("behind", tuple(ONES)))
        self.assert_same(term_of(APART8), ("together", tuple(ONES)))
        self.assert_same(term_of(Web(5, ((0, 2), (1, 2), (1, 3), (4, 0), (4, 1), (4, 2), (4, 3)))),
                         None)
        self.assert_same(term_of(Web(4, ((3, 0), (3, 1), (3, 2)))),
                         ("behind", (ONES[3], ("together", tuple(ONES[:3])))))
        self.assert_same(term_of(Web(4, ((1, 3), (2, 0)))),
                         ("together", (("behind", (ONES[2], ONES[0])),
                                       ("behind", (ONES[1], ONES[3])))))
        told = {}
        for term in TERMS:
            if is_plain(term):
                key = (web_of(term).many, web_of(term).befores)
                self.assertNotIn(key, told)
                told[key] = term
        for web in FEW_WEBS:
            self.assert_same(term_of(web), told.get((web.many, web.befores)))

    def test_the_third_fact(self):
        for web in FEW_WEBS + GREATER_WEBS + [APART8, ROW8, LEVELS8, ALMOST_LEVELS8]:
            self.assert_flag(term_of(web) is None, an_n(web) is not None)
            if term_of(web) is not None:
                self.assert_same(web_of(term_of(web)), web)
                self.assertTrue(is_plain(term_of(web)))

    def test_term_count(self):
        self.assert_same(term_count(T_TERM), 3)
        self.assert_same(term_count(("one", 0)), 1)
        self.assert_same(term_count(("behind", tuple(ONES))), 1)
        self.assert_same(term_count(("together", tuple(ONES))), 40320)
        pairs = tuple(("behind", (ONES[at], ONES[at + 1])) for at in (0, 2, 4, 6))
        self.assert_same(term_count(("together", pairs)), 2520)
        for term in TERMS:
            found = drawn_by_parts(term)
            self.assert_same(term_count(term), len(found))
            self.assertEqual(sorted(found), orders(web_of(term)))


class WrongTermsTest(Case):
    def assert_no_term(self, thing):
        self.assert_flag(is_term(thing), False)
        self.assert_refused(NoTerm, {}, web_of, thing)
        self.assert_refused(NoTerm, {}, term_count, thing)

    def test_one_thing_changed(self):
        zero, one = ONES[:2]
        self.assert_flag(is_term(("behind", (zero, one))), True)
        for thing in [("one", 1), ("one", 8), ("one", -1), ("one", False), ("one", "0"),
                      ("one", (0,)), ("one",), ("one", 0, 0), ["one", 0], "one", ("two", 0),
                      ("ONE", 0), (0, "one"), ("behind", 0), ("together", 0), ("one", (zero, one)),
                      ("behind", ()), ("together", ()), ("behind", (zero,)), ("together", (zero,)),
                      ("behind", [zero, one]), ["behind", (zero, one)], ("behind", zero, one),
                      ("behind", (zero, zero)), ("together", (zero, zero)), ("behind", (0, 1)),
                      ("behind", (one, ONES[2])), ("together", (zero, ONES[2])),
                      ("behind", (zero, ["one", 1])), ("behind", (zero, ("one", True))),
                      ("behind", (zero, one, None)), ("beside", (zero, one)), ("", (zero, one)),
                      (b"behind", (zero, one)), ("behind ", (zero, one)), (None, (zero, one)),
                      ("behind", (zero, one), ()), ("behind", {0: zero, 1: one}), (("one", 0),),
                      ("together", (one, ONES[2], ONES[3])), ("behind", (*ONES, ("one", 8))),
                      ("together", (("behind", (zero, one)), ("behind", (one, ONES[2])))),
                      ("together", (("behind", (zero,)), one)), ("behind", (zero, ("together", ())))]:
            self.assert_no_term(thing)

    def test_names_that_are_not_from_zero_on(self):
        for names in [(1,), (7,), (1, 2), (0, 2), (0, 1, 3), (1, 2, 3, 4, 5, 6, 7)]:
            ones = tuple(("one", name) for name in names)
            self.assert_no_term(ones[0] if len(ones) == 1 else ("together", ones))
        for names in combinations(range(8), 7):
            ones = tuple(("one", name) for name in names)
            self.assert_flag(is_term(("behind", ones)), names == tuple(range(7)))

    def test_strange_things(self):
        for thing in strange():
            self.assert_no_term(thing)
            self.assert_no_term((thing, (ONES[0], ONES[1])))
            self.assert_no_term(("behind", thing))
            self.assert_no_term(("together", (ONES[0], thing)))
        for thing in strange():
            self.assert_no_term(("one", thing))

    def test_things_nested_deep(self):
        for deep in (2, 18, 19):
            self.assert_no_term(nested(deep, lambda thing: ("behind", (thing,))))
            self.assert_no_term(nested(deep, lambda thing: ("behind", (("one", 0), thing))))
            self.assert_no_term(nested(deep, lambda thing: ("together", (thing, ("one", deep)))))
        self.assert_no_term(("behind", (("one", 0),) * 3000))


if __name__ == "__main__":
    unittest.main()
