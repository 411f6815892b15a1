"""8.1 and 8.2: books of drawing; 0.2 to 0.5 for them; example e11."""

import unittest
from fractions import Fraction
from itertools import product

from evenorders.books import always_even, book_chance, books_part, even_book, is_book, unlike_by
from evenorders.errors import NoBook, NoNumber, NoOrder, TooMany
from evenorders.orders import orders
from evenorders.ways import chance, even
from evenorders.webs import Web
from tests.brute import free, pair_of
from tests.common import ALMOST_LEVELS8, APART8, F, FEW_WEBS, GREATER_WEBS, LEVELS8, N, ONE, ROW8, T
from tests.common import WITH_4704, WITH_5040
from tests.common import Case, brute_orders, strange, strange_but

FRONT, BACK = ("front",), ("back",)
ALL_FRONT, ALL_BACK = (FRONT,), (BACK,)
BY_TURNS = (FRONT, BACK)


def only_if(name, first, second):
    return ("if", name, first, second)


def deep_book(deep):
    """A book of which the deeds are so deep in one another."""
    deeds = (BACK,)
    for at in range(deep - 1):
        deeds = (only_if(at % 3, deeds, (FRONT,)),)
    return deeds


BOOKS = [
    ALL_FRONT, ALL_BACK, BY_TURNS, (BACK, FRONT), (FRONT, FRONT, BACK), (BACK, BACK, BACK, FRONT),
    (only_if(0, (FRONT,), (BACK,)),), (only_if(1, (BACK,), (FRONT,)),),
    (only_if(7, (FRONT,), (BACK,)), FRONT), (FRONT, only_if(2, (BACK, BACK), (FRONT, BACK)), FRONT),
    (only_if(0, (only_if(1, (FRONT,), (BACK, FRONT)), BACK), (BACK, only_if(0, (BACK,), (FRONT,)))),),
    (FRONT, only_if(0, (BACK,), (only_if(1, (BACK, BACK), (FRONT,)), BACK)), BACK),
    (only_if(3, (only_if(2, (only_if(1, (FRONT,), (BACK,)),), (BACK,)),), (FRONT, BACK)),),
    deep_book(6), (FRONT,) * 40, (FRONT, BACK) * 20,
]


def brute_chances(web, book):
    """The chances of all orders, every draw followed as the document tells it."""
    found = {order: Fraction(0) for order in brute_orders(web)}

    def go_on(todo, front, back, share):
        left = [name for name in range(web.many) if name not in front + back]
        if not left:
            found[front + back] += share
            return
        deed, *later = todo or book
        if deed[0] == "if":
            go_on([*(deed[2] if deed[1] in front + back else deed[3]), *later], front, back, share)
            return
        names = free(web, left, deed[0] == "back")
        for name in names:
            if deed[0] == "front":
                go_on(later, (*front, name), back, share / len(names))
            else:
                go_on(later, front, (name, *back), share / len(names))

    go_on([], (), (), Fraction(1))
    return found


WEBS = FEW_WEBS[:23] + FEW_WEBS[23::9] + GREATER_WEBS[2:5]
BRUTE = {(at, place): brute_chances(web, book)
         for at, web in enumerate(WEBS) for place, book in enumerate(BOOKS)}


class IsBookTest(Case):
    def test_books(self):
        for book in BOOKS:
            self.assert_flag(is_book(book), True)

    def test_forty_deeds_and_no_more(self):
        self.assert_flag(is_book((FRONT,) * 40), True)
        self.assert_flag(is_book((FRONT,) * 41), False)
        within = only_if(0, (FRONT,) * 20, (BACK,) * 19)
        self.assert_flag(is_book((within,)), True)
        self.assert_flag(is_book((within, FRONT)), False)
        self.assert_flag(is_book((only_if(0, (FRONT,) * 20, (BACK,) * 20),)), False)
        thirteen = only_if(0, (FRONT,), (FRONT,))
        self.assert_flag(is_book((thirteen,) * 13 + (BACK,)), True)
        self.assert_flag(is_book((thirteen,) * 13 + (BACK, BACK)), False)
        self.assert_flag(is_book((thirteen,) * 14), False)

    def test_six_deep_and_no_deeper(self):
        self.assert_flag(is_book(deep_book(6)), True)
        self.assert_flag(is_book(deep_book(7)), False)
        second = (FRONT,)
        for _ in range(5):
            second = (only_if(0, (FRONT,), second),)
        self.assert_flag(is_book(second), True)
        self.assert_flag(is_book((FRONT, *second)), True)
        self.assert_flag(is_book((only_if(0, (FRONT,), second),)), False)
        self.assert_flag(is_book((only_if(0, second, (FRONT,)),)), False)

    def test_one_thing_changed(self):
        for thing in [(), FRONT, BACK, "front", [FRONT], (["front"],), ("front", "back"), (FRONT, ()),
                      (("front", 0),), (("front", ()),), (("Front",),), (("fron",),), (("",),), ((0,),),
                      (FRONT, None), (FRONT, "back"), (FRONT, ["back"]), ((b"front",),), ((True,),),
                      (("if",),), (("if", 0),), (("if", 0, ALL_FRONT),), ("if", 0, ALL_FRONT, ALL_BACK),
                      (("if", 0, ALL_FRONT, ALL_BACK, ALL_BACK),), (["if", 0, ALL_FRONT, ALL_BACK],),
                      (("IF", 0, ALL_FRONT, ALL_BACK),), (("front", 0, ALL_FRONT, ALL_BACK),),
                      {0: FRONT}, (("front", "back"),), ((FRONT,),), ((("front",),), FRONT)]:
            self.assert_flag(is_book(thing), False)
        for name in [8, -1, True, False, None, "0", (0,), 10 ** 50]:
            self.assert_flag(is_book((only_if(name, ALL_FRONT, ALL_BACK),)), False)
        for deeds in [(), FRONT, [FRONT], None, "front", 0, ((),), (ALL_FRONT,), (FRONT, None), {}]:
            self.assert_flag(is_book((only_if(0, deeds, ALL_BACK),)), False)
            self.assert_flag(is_book((only_if(0, ALL_BACK, deeds),)), False)
        for name in range(8):
            self.assert_flag(is_book((only_if(name, ALL_FRONT, ALL_BACK),)), True)

    def test_strange_things(self):
        for thing in strange():
            self.assert_flag(is_book(thing), False)
            self.assert_flag(is_book((FRONT, thing)), False)
            self.assert_flag(is_book((thing, FRONT)), False)
            self.assert_flag(is_book(((thing,),)), False)
            self.assert_flag(is_book((only_if(0, (thing,), (FRONT,)),)), False)
            self.assert_flag(is_book((only_if(0, (FRONT,), thing),)), False)
        for thing in strange_but(3):
            self.assert_flag(is_book((only_if(thing, (FRONT,), (FRONT,)),)), False)


class ChancesTest(Case):
    def test_e11(self):
        self.assert_same(book_chance(T, BY_TURNS, (0, 1, 2)), (1, 4))

    def test_by_hand(self):
        self.assert_same(book_chance(ONE, ALL_BACK, (0,)), (1, 1))
        self.assert_same(book_chance(T, BY_TURNS, (0, 2, 1)), (1, 4))
        self.assert_same(book_chance(T, BY_TURNS, (1, 0, 2)), (1, 2))
        self.assert_same(book_chance(APART8, BY_TURNS, tuple(range(8))), (1, 40320))
        self.assert_same(book_chance(ROW8, BY_TURNS, tuple(range(8))), (1, 1))
        # Of 8 names all but 6 are free at the end; once 7 is drawn, all 7 are free.
        self.assert_same(book_chance(Web(8, ((6, 7),)), (BACK, *[FRONT] * 39), (6, 0, 1, 2, 3, 4, 5, 7)),
                         (1, 7 * 5040))

    def test_an_if_on_a_name_that_the_web_has_not(self):
        for web in (ONE, T, F, Web(3, ((0, 1),))):
            for order in brute_orders(web):
                self.assert_same(book_chance(web, (only_if(7, ALL_BACK, ALL_FRONT),), order),
                                 book_chance(web, ALL_FRONT, order))
                self.assert_same(book_chance(web, (only_if(3, ALL_FRONT, ALL_BACK),), order),
                                 book_chance(web, ALL_BACK, order))

    def test_begun_anew_and_ended_in_between(self):
        for order in brute_orders(N):
            self.assert_same(book_chance(N, BY_TURNS, order), book_chance(N, BY_TURNS * 2, order))
            self.assert_same(book_chance(N, (FRONT,), order), book_chance(N, (FRONT,) * 40, order))
            self.assert_same(book_chance(N, (FRONT, BACK, FRONT), order),
                             book_chance(N, (FRONT, BACK, FRONT, FRONT, BACK), order))

    def test_against_every_draw(self):
        for (at, place), found in BRUTE.items():
            self.assertEqual(sum(found.values()), 1)
            for order in found:
                self.assert_same(book_chance(WEBS[at], BOOKS[place], order), pair_of(found[order]))

    def test_all_front_and_all_back_are_the_ways(self):
        for web in FEW_WEBS:
            for order in brute_orders(web):
                self.assert_same(book_chance(web, ALL_FRONT, order), chance(web, "front", order))
                self.assert_same(book_chance(web, ALL_BACK, order), chance(web, "back", order))


class EvenTest(Case):
    def test_even_book(self):
        for book in BOOKS:
            for web in (ONE, F, ROW8, APART8, LEVELS8):
                self.assert_flag(even_book(web, book), True)
        for book in (ALL_FRONT, ALL_BACK, BY_TURNS):
            for web in (T, N, ALMOST_LEVELS8, WITH_4704):
                self.assert_flag(even_book(web, book), False)
        for (at, place), found in BRUTE.items():
            self.assert_flag(even_book(WEBS[at], BOOKS[place]), len(set(found.values())) == 1)

    def test_even_as_the_ways_are(self):
        for web in FEW_WEBS:
            self.assert_flag(even_book(web, ALL_FRONT), even(web, "front"))
            self.assert_flag(even_book(web, ALL_BACK), even(web, "back"))

    def test_unlike_by(self):
        self.assert_same(unlike_by(T, ALL_FRONT), ((0, 1, 2), (1, 0, 2)))
        self.assert_same(unlike_by(T, ALL_BACK), ((0, 1, 2), (0, 2, 1)))
        for (at, place), found in BRUTE.items():
            least = min(found)
            unlike = [order for order in found if found[order] != found[least]]
            self.assert_same(unlike_by(WEBS[at], BOOKS[place]),
                             (least, min(unlike)) if unlike else None)

    def test_unlike_by_of_many_orders(self):
        least, other = unlike_by(WITH_4704, BY_TURNS)
        found = [book_chance(WITH_4704, BY_TURNS, order) for order in orders(WITH_4704)]
        unlike = [at for at, share in enumerate(found) if share != found[0]]
        self.assertEqual([least, other], [orders(WITH_4704)[at] for at in (0, unlike[0])])


def brute_part(one, other, many):
    for web in FEW_WEBS_IN_ORDER:
        if web.many <= many:
            chances, others = brute_chances(web, one), brute_chances(web, other)
            for order in sorted(chances):
                if chances[order] != others[order]:
                    return (web, order)
    return None


FEW_WEBS_IN_ORDER = sorted(FEW_WEBS, key=lambda web: (web.many, web.befores))


class PartingTest(Case):
    def test_by_hand(self):
        self.assert_same(books_part(ALL_FRONT, ALL_FRONT, 4), None)
        self.assert_same(books_part(ALL_FRONT, ALL_BACK, 1), None)
        self.assert_same(books_part(ALL_FRONT, ALL_BACK, 2), None)
        self.assert_same(books_part(ALL_FRONT, ALL_BACK, 3), (Web(3, ((0, 1),)), (0, 1, 2)))
        self.assert_same(books_part(BY_TURNS, BY_TURNS * 2, 4), None)
        self.assert_same(books_part((FRONT,) * 3, (FRONT, FRONT, FRONT, BACK), 4), None)
        self.assert_same(books_part((only_if(7, ALL_BACK, ALL_FRONT),), ALL_FRONT, 4), None)

    def test_parting_with_four_names_alone(self):
        one, other = (FRONT, FRONT, BACK, BACK), (FRONT, BACK, FRONT, BACK)
        late = [(one, other, many) for one, other, many in product(BOOKS[:8] + [one, other], BOOKS[:8], [3, 4])]
        seen = {many: [] for many in (3, 4)}
        for one, other, many in late:
            found = books_part(one, other, many)
            self.assert_same(found, brute_part(one, other, many))
            seen[many].append(found)
        self.assertTrue(any(found is not None and found[0].many == 4 for found in seen[4]))

    def test_always_even(self):
        for many in (1, 2):
            for book in BOOKS:
                self.assert_same(always_even(book, many), None)
        self.assert_same(always_even(ALL_FRONT, 3), Web(3, ((0, 1),)))
        for book in BOOKS[:12]:
            for many in (3, 4):
                uneven = [web for web in FEW_WEBS_IN_ORDER if web.many <= many
                          and len(set(brute_chances(web, book).values())) > 1]
                self.assert_same(always_even(book, many), uneven[0] if uneven else None)


class WrongBooksTest(Case):
    def test_no_book(self):
        for thing in [*strange(), (), FRONT, [FRONT], (FRONT,) * 41, deep_book(7)]:
            self.assert_refused(NoBook, {}, book_chance, T, thing, (0, 1, 2))
            self.assert_refused(NoBook, {}, even_book, T, thing)
            self.assert_refused(NoBook, {}, unlike_by, T, thing)
            self.assert_refused(NoBook, {}, books_part, thing, ALL_BACK, 2)
            self.assert_refused(NoBook, {}, books_part, ALL_BACK, thing, 2)
            self.assert_refused(NoBook, {}, always_even, thing, 2)

    def test_no_order(self):
        for thing in [*strange(), (), (2, 1, 0), [0, 1, 2], (0, 1), (0, True, 2), (0, 0, 2)]:
            self.assert_refused(NoOrder, {}, book_chance, T, ALL_FRONT, thing)

    def test_no_number(self):
        for thing in [*strange_but(3), 0, 5, -3, True, "2", (2,), [1]]:
            self.assert_refused(NoNumber, {}, books_part, ALL_FRONT, ALL_BACK, thing)
            self.assert_refused(NoNumber, {}, books_part, ALL_FRONT, ALL_FRONT, thing)
            self.assert_refused(NoNumber, {}, always_even, ALL_FRONT, thing)

    def test_too_many(self):
        for web in (WITH_5040, APART8):
            self.assert_refused(TooMany, {"most": 5000}, unlike_by, web, ALL_FRONT)

    def test_which_error_comes_first(self):
        self.assert_refused(NoBook, {}, book_chance, T, (), (2, 1, 0))
        self.assert_refused(NoBook, {}, unlike_by, APART8, ())
        self.assert_refused(NoBook, {}, books_part, ALL_FRONT, (), 5)
        self.assert_refused(NoBook, {}, books_part, (), ALL_FRONT, 5)
        self.assert_refused(NoBook, {}, always_even, [], 0)


if __name__ == "__main__":
    unittest.main()
