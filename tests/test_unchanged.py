"""0.4: what is passed stays as it was, and equal calls give equal answers."""

import unittest

from evenorders import askers, asks, books, callings, changes, favour, gaps, levels, listing, nearest
from evenorders import reading, rings, strangers, terms, texts, tickets, trees
from evenorders.webs import Web
from tests.common import Case, exact

WEB = Web(5, ((0, 3), (0, 4), (1, 4)))
CALLED = (4, 2, 0, 1, 3)
ORDER = (2, 1, 0, 4, 3)
MOMENT = (4, (2, 0, 1, 4), (0, 1, 4, 2))
TERM = ("behind", (("one", 1), ("together", (("one", 2), ("one", 0)))))
RING = [((0, 3), 1, 2), ((), 2, 1)]
BOOK = (("front",), ("if", 2, (("back",),), (("front",), ("back",))))
SMALL = Web(4, ((0, 2), (3, 2)))
TREE = trees.ask_tree(SMALL)


def asker(befores):
    return [pair for pair in asks.open_pairs(WEB) if pair not in befores and pair[::-1] not in befores][0]


def drawer(row):
    return {name: name + len(row) for name in range(5) if name not in row
            and all(one in row for one, other in WEB.befores if other == name)}


CALLS = [
    (levels.levels, WEB), (levels.three, WEB), (levels.unlike, WEB, "back"),
    (levels.is_unlike, WEB, "back", (ORDER, ORDER)), (levels.is_unlike, WEB, "back", [ORDER]),
    (favour.place_chance, WEB, "numbers", 1, 2), (favour.favour, WEB, "front"),
    (favour.fair, WEB, "front"), (favour.unevenness, WEB, "front"), (favour.least_uneven, WEB),
    (changes.to_levels, WEB), (changes.to_levels_by, WEB, "out"),
    (gaps.gaps, WEB, (2, 0, 3), 4), (gaps.gap_chance, WEB, CALLED, ORDER),
    (callings.even_calling, WEB, CALLED), (callings.moment, WEB, CALLED),
    (callings.is_moment, WEB, CALLED, MOMENT), (callings.is_moment, WEB, CALLED, list(MOMENT)),
    (callings.calling, WEB), (callings.count_callings, WEB), (callings.end_even, WEB, CALLED),
    (callings.an_n, WEB), (callings.two_pairs, WEB),
    (callings.calling_at, Web(3, ()), 4), (callings.calling_number, Web(3, ()), (2, 0, 1)),
    (nearest.gap_unevenness, WEB, CALLED), (nearest.nearest_calling, WEB),
    (terms.web_of, TERM), (terms.is_term, TERM), (terms.is_term, [TERM, [TERM]]),
    (terms.term_of, WEB), (terms.term_of, Web(3, ((1, 0),))), (terms.term_count, TERM),
    (tickets.ticket_chance, WEB, (2, 5, 1, 1, 3), ORDER), (tickets.even_tickets, WEB, (1,) * 5),
    (tickets.tickets, WEB), (tickets.hooks, WEB), (tickets.is_forest, WEB),
    (rings.ring, WEB), (rings.is_ring, WEB, RING), (rings.is_ring, WEB, [*RING, [RING]]),
    (books.is_book, BOOK), (books.is_book, [BOOK, [BOOK]]), (books.book_chance, WEB, BOOK, ORDER),
    (books.even_book, WEB, BOOK), (books.unlike_by, WEB, BOOK),
    (books.books_part, BOOK, (("front",),), 4), (books.always_even, BOOK, 4),
    (asks.fewest_asks, WEB), (asks.most_asks, WEB), (asks.first_asks, WEB), (asks.no_saving, WEB),
    (asks.pieces, WEB), (asks.saving, WEB), (asks.lucky, WEB, ORDER), (asks.must_ask, WEB, ORDER),
    (trees.ask_tree, WEB), (trees.is_tree, SMALL, TREE), (trees.is_tree, SMALL, [TREE, [TREE]]),
    (trees.asked, TREE, (0, 3, 1, 2)),
    (askers.asks_of, WEB, asker, ORDER), (askers.worst_of, WEB, asker),
    (askers.cheapest_asks, WEB, (3, 1, 4, 1, 5, 9, 2)), (askers.cheap_first, WEB, (3, 1, 4, 1, 5, 9, 2)),
    (strangers.drawn, WEB, drawer, ORDER), (strangers.judged, WEB, drawer),
    (texts.web_text, WEB), (texts.order_text, list(ORDER)), (texts.term_text, TERM), (texts.book_text, BOOK),
    (reading.read_web, "names 3\nbefore 0 1\n"), (reading.read_order, "4 4 0"),
    (reading.read_term, "[(0 > 2) | 1]"), (reading.read_book, "front if 2 ( back ) ( front back )"),
    (listing.webs, 3), (listing.kinds, 4), (listing.count_webs, 4, "terms"), (listing.sorts, WEB),
]


class UnchangedTest(Case):
    def test_arguments_and_answers(self):
        answers = []
        for function, *args in CALLS:
            before = exact(args)
            answers.append(exact(function(*args)))
            self.assertEqual(exact(args), before, function)
        for (function, *args), answer in reversed(list(zip(CALLS, answers))):
            self.assertEqual(exact(function(*args)), answer, function)


if __name__ == "__main__":
    unittest.main()
