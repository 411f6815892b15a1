"""Asking as a game: what is known is the list of the orders that may still be meant."""

from tests.common import brute_orders


def open_in(rows):
    """The pairs of names of which both may still be ahead, the lesser one first."""
    names = sorted(rows[0])
    return [(one, other) for one in names for other in names if one < other
            and len({row.index(one) < row.index(other) for row in rows}) == 2]


def by_answers(rows, one, other):
    """The orders that are left by each of both answers."""
    return ([row for row in rows if row.index(one) < row.index(other)],
            [row for row in rows if row.index(one) > row.index(other)])


class Game:
    """All asks and answers of a web, each ask at its price."""

    def __init__(self, web, prices, best):
        self.rows = brute_orders(web)
        self.prices = prices
        # The best of all asks is the least sum for who asks well, the greatest for who asks badly.
        self.best = best
        self.kept = {}

    def sums(self, rows):
        return {pair: self.prices[pair] + max(self.sum(part) for part in by_answers(rows, *pair))
                for pair in open_in(rows)}

    def sum(self, rows):
        key = tuple(rows)
        if key not in self.kept:
            self.kept[key] = self.best(self.sums(rows).values(), default=0)
        return self.kept[key]


def prices_of(web, prices):
    return dict(zip(open_in(brute_orders(web)), prices))


def game_of(web, prices=None, best=min):
    if prices is None:
        prices = [1] * len(open_in(brute_orders(web)))
    return Game(web, prices_of(web, prices), best)


def fewest_to_know(web, order):
    """The least number of asks that make an order known, all answers being by it."""
    layer = [brute_orders(web)]
    number = 0
    while [order] not in layer:
        found = {}
        for rows in layer:
            for pair in open_in(rows):
                left = next(part for part in by_answers(rows, *pair) if order in part)
                found[tuple(left)] = left
        layer = list(found.values())
        number += 1
    return number
