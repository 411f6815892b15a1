"""4.1: whom a way favours, and how uneven it is; 0.2 to 0.5 for it; example e10."""

import unittest
from fractions import Fraction

from evenorders.errors import NoName, NoPlace, NoWay, TooMany
from evenorders.favour import fair, favour, least_uneven, place_chance, unevenness
from evenorders.webs import Web
from tests.brute import BRUTE, SOME_WEBS, WAYS, pair_of
from tests.common import APART8, LEVELS8, N, ONE, ROW8, T, F, WITH_4704, WITH_5040
from tests.common import Case, strange


def there(found, name, place):
    return sum([found[order] for order in found if order[place] == name], Fraction(0))


def evenly(found):
    return {order: Fraction(1, len(found)) for order in found}


def mean(found, name):
    return sum(found[order] * order.index(name) for order in found)


def brute_unevenness(found):
    return sum(abs(share - Fraction(1, len(found))) for share in found.values()) / 2


class FavourTest(Case):
    def test_e10(self):
        self.assert_same(favour(T, "front"), ((-1, 6), (1, 4), (-1, 12)))

    def test_place_chance(self):
        self.assert_same(place_chance(T, "front", 0, 0), (1, 2))
        self.assert_same(place_chance(T, "front", 0, 2), (0, 1))
        self.assert_same(place_chance(T, "numbers", 2, 2), (2, 3))
        self.assert_same(place_chance(ONE, "back", 0, 0), (1, 1))
        self.assert_same(place_chance(ROW8, "back", 7, 7), (1, 1))
        self.assert_same(place_chance(LEVELS8, "numbers", 7, 7), (1, 4))
        for (at, way), found in BRUTE.items():
            for name in range(SOME_WEBS[at].many):
                for place in range(SOME_WEBS[at].many):
                    self.assert_same(place_chance(SOME_WEBS[at], way, name, place),
                                     pair_of(there(found, name, place)))

    def test_favour(self):
        self.assert_same(favour(ONE, "front"), ((0, 1),))
        self.assert_same(favour(ROW8, "numbers"), ((0, 1),) * 8)
        self.assert_same(favour(LEVELS8, "back"), ((0, 1),) * 8)
        for (at, way), found in BRUTE.items():
            favours = [mean(evenly(found), name) - mean(found, name)
                       for name in range(SOME_WEBS[at].many)]
            self.assert_same(favour(SOME_WEBS[at], way), tuple(pair_of(part) for part in favours))

    def test_fair(self):
        for way in WAYS:
            self.assert_flag(fair(T, way), False)
            self.assert_flag(fair(F, way), True)
            self.assert_flag(fair(ONE, way), True)
            self.assert_flag(fair(ROW8, way), True)
            self.assert_flag(fair(LEVELS8, way), True)
        for (at, way), found in BRUTE.items():
            names = range(SOME_WEBS[at].many)
            told = [there(found, name, place) == there(evenly(found), name, place)
                    for name in names for place in names]
            self.assert_flag(fair(SOME_WEBS[at], way), all(told))

    def test_unevenness(self):
        self.assert_same(unevenness(T, "front"), (1, 6))
        self.assert_same(unevenness(T, "numbers"), (1, 6))
        self.assert_same(unevenness(F, "front"), (0, 1))
        self.assert_same(unevenness(ONE, "numbers"), (0, 1))
        self.assert_same(unevenness(ROW8, "back"), (0, 1))
        for (at, way), found in BRUTE.items():
            self.assert_same(unevenness(SOME_WEBS[at], way), pair_of(brute_unevenness(found)))

    def test_least_uneven(self):
        self.assert_same(least_uneven(T), WAYS)
        self.assert_same(least_uneven(ONE), WAYS)
        self.assert_same(least_uneven(ROW8), WAYS)
        seen = []
        for at, web in enumerate(SOME_WEBS):
            found = [brute_unevenness(BRUTE[at, way]) for way in WAYS]
            told = tuple(way for way, share in zip(WAYS, found) if share == min(found))
            self.assert_same(least_uneven(web), told)
            seen.append(told)
        for told in [WAYS, ("front",), ("back",), ("front", "back"), ("front", "numbers")]:
            self.assertIn(told, seen)
        self.assert_same(least_uneven(Web(5, ((0, 2), (2, 3), (3, 4)))), ("numbers",))

    def test_many_orders(self):
        for way in WAYS:
            self.assert_same(place_chance(WITH_4704, way, 7, 0), (0, 1))
            self.assertEqual(sum(Fraction(*part) for part in favour(WITH_4704, way)), 0)
            self.assert_flag(fair(WITH_4704, way), False)
        found = {way: Fraction(*unevenness(WITH_4704, way)) for way in WAYS}
        self.assert_same(least_uneven(WITH_4704),
                         tuple(way for way in WAYS if found[way] == min(found.values())))


class WrongFavourTest(Case):
    def test_no_way(self):
        for thing in [*strange(), "FRONT", ("front",), ["back"]]:
            for function in (favour, fair, unevenness):
                self.assert_refused(NoWay, {}, function, T, thing)
            self.assert_refused(NoWay, {}, place_chance, T, thing, 0, 0)

    def test_no_name_and_no_place(self):
        for thing in [*strange(), 3, -1, True, "0", (0,), [0]]:
            for way in WAYS:
                self.assert_refused(NoName, {}, place_chance, T, way, thing, 0)
                self.assert_refused(NoPlace, {}, place_chance, T, way, 0, thing)

    def test_too_many(self):
        for web in (WITH_5040, APART8):
            for way in WAYS:
                for function in (favour, fair, unevenness):
                    self.assert_refused(TooMany, {"most": 5000}, function, web, way)
                self.assert_refused(TooMany, {"most": 5000}, place_chance, web, way, 0, 6)
            self.assert_refused(TooMany, {"most": 5000}, least_uneven, web)

    def test_which_error_comes_first(self):
        for function in (favour, fair, unevenness):
            self.assert_refused(NoWay, {}, function, APART8, "side")
        self.assert_refused(NoWay, {}, place_chance, APART8, "side", 8, 8)
        self.assert_refused(NoName, {}, place_chance, APART8, "front", 8, 8)
        self.assert_refused(NoPlace, {}, place_chance, APART8, "front", 7, 8)
        self.assert_refused(NoPlace, {}, place_chance, N, "front", 3, 4)


if __name__ == "__main__":
    unittest.main()
