"""Asks who comes ahead, until just one order can be meant.

What is known is a tuple with, for each name, the bits of those behind it.
"""

from evenorders.basics import answered, behind_bits, open_by, pieces_of
from evenorders.errors import NoOrder, TooMany
from evenorders.orders import is_order
from evenorders.webs import open_pairs

MOST_NAMES_HERE = 5


def check_few(web):
    if web.many > MOST_NAMES_HERE:
        raise TooMany(MOST_NAMES_HERE)


def fewest_asks(web):
    """The least number of asks that are enough, whatever is answered."""
    check_few(web)
    return least_sum(known_of(web), same_prices(web), {})


def known_of(web):
    return tuple(behind_bits(web))


def same_prices(web):
    """Prices by which each ask costs 1, so that a sum of them is a number of asks."""
    return {pair: 1 for pair in open_pairs(web)}


def least_sum(known, prices, kept):
    """The least sum of prices that is enough, whatever is answered.

    Kept are the least sums that have been worked out, by what is known.
    """
    if known not in kept:
        sums = sums_by_first(known, prices, kept)
        kept[known] = min([sums[pair] for pair in sums], default=0)
    return kept[known]


def sums_by_first(known, prices, kept):
    """For each pair that may be asked first the least sum that is then enough."""
    sums = {}
    for one, other in open_by(known):
        first = least_sum(answered(known, one, other), prices, kept)
        second = least_sum(answered(known, other, one), prices, kept)
        sums[(one, other)] = prices[(one, other)] + max(first, second)
    return sums


def most_asks(web):
    """The greatest number of asks that may be needed: by the sixth fact, all open pairs."""
    return len(open_pairs(web))


def first_asks(web):
    """The pairs, ascending, by which the first ask can be made such that the fewest are enough."""
    check_few(web)
    sums = sums_by_first(known_of(web), same_prices(web), {})
    least = min([sums[pair] for pair in sums], default=0)
    return [pair for pair in sums if sums[pair] == least]


def no_saving(web):
    """Whether clever asks are no fewer than asks chosen badly."""
    pairs = open_pairs(web)
    return all([_is_row_or_triangle(piece, pairs) for piece in pieces(web)])


def _is_row_or_triangle(piece, pairs):
    held = [pair for pair in pairs if pair[0] in piece]
    neighbours = [len([pair for pair in held if name in pair]) for name in piece]
    # Three that hang together are a row or a triangle, whatever pairs there are.
    return len(piece) == 3 or (len(held) < len(piece) and max(neighbours) <= 2)


def pieces(web):
    """Those who hang together where names that are apart are held together."""
    return pieces_of(list(range(web.many)), open_pairs(web))


def saving(web):
    """The least pair with which as the first ask fewer asks than there are open
    pairs are enough, None if there is none."""
    check_few(web)
    sums = sums_by_first(known_of(web), same_prices(web), {})
    found = [pair for pair in sums if sums[pair] < len(sums)]
    return found[0] if found else None


def lucky(web, order):
    """The least number of asks that make an order known, if all answers are by it."""
    return len(must_ask(web, order))


def must_ask(web, order):
    """The open pairs that stand as neighbours in an order, ascending."""
    if not is_order(web, order):
        raise NoOrder()
    pairs = [tuple(sorted(order[at:at + 2])) for at in range(web.many - 1)]
    return [pair for pair in open_pairs(web) if pair in pairs]
