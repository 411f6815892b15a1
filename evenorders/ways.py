"""Three ways to draw an order, and how likely each order is by them.

By each of them the chance of an order is one in a whole number.
"""

from math import factorial

from evenorders.basics import ahead_bits, behind_bits, bits_of, comers, is_closed_lot
from evenorders.errors import NoLot, NoOrder, NoWay
from evenorders.orders import is_order, orders
from evenorders.webs import Web, ahead_of, open_pairs

WAYS = ("front", "back", "numbers")


def check_way(thing):
    if not isinstance(thing, str) or thing not in WAYS:
        raise NoWay()


def chance(web, way, order):
    """The chance with which a way draws an order."""
    check_way(way)
    if not is_order(web, order):
        raise NoOrder()
    return (1, _one_in(_needs_by(web, way), way, order))


def chances(web, way):
    """The chances of all orders by a way."""
    check_way(way)
    found = orders(web)
    needs = _needs_by(web, way)
    return {order: (1, _one_in(needs, way, order)) for order in found}


def _needs_by(web, way):
    return behind_bits(web) if way == "back" else ahead_bits(web)


def _one_in(needs, way, order):
    """The number of which the chance of an order is one part."""
    if way == "front":
        return _choices(needs, order)
    if way == "back":
        return _choices(needs, order[::-1])
    return _least_ones(needs, order)


def _choices(needs, row):
    """The product of the numbers of those who might come at each draw."""
    bottom = 1
    gone = 0
    for name in row:
        bottom *= len(comers(needs, gone))
        gone |= 1 << name
    return bottom


def _least_ones(needs, order):
    """The product of the sizes of the runs that end at each draw.

    Who is drawn has a greater number than all who were drawn while it might
    have come, too. So the draws fall into runs of neighbours of which the
    last one has the greatest number, and a new draw joins to itself all runs
    that reach into its own time of waiting. That the last one of a run is the
    greatest is one chance in its size, whatever holds within the shorter runs.
    """
    bottom = 1
    starts = []
    for at in range(len(order)):
        waiting = _waiting_from(needs, order, at)
        starts.append(at)
        while starts[-1] > waiting:
            starts.pop()
        bottom *= at - starts[-1] + 1
    return bottom


def _waiting_from(needs, order, at):
    """From which draw on the name that is drawn at a place might have come."""
    since = at
    while since > 0 and not (needs[order[at]] >> order[since - 1]) & 1:
        since -= 1
    return since


def number_rows(web, order):
    """How many ways to give the numbers draw an order."""
    if not is_order(web, order):
        raise NoOrder()
    return factorial(web.many) // _least_ones(ahead_bits(web), order)


def numbers_web(web, order):
    """The web in which each one drawn is ahead of those who might have come, too."""
    if not is_order(web, order):
        raise NoOrder()
    needs = ahead_bits(web)
    pairs = []
    for at, name in enumerate(order):
        might = comers(needs, bits_of(order[:at]))
        pairs.extend([(name, other) for other in might if other != name])
    return Web(web.many, tuple(sorted(pairs)))


def even(web, way):
    """Whether a way draws all orders alike likely.

    By the first fact each way does exactly if there are levels; and there are
    exactly if the same names are ahead of any two that are apart.
    """
    check_way(way)
    return all([ahead_of(web, one) == ahead_of(web, other) for one, other in open_pairs(web)])


def still_even(web, way, lot):
    """Whether the orders that begin with the names of a lot are drawn alike likely."""
    check_way(way)
    if not is_closed_lot(web, lot):
        raise NoLot()
    by_order = chances(web, way)
    beginning = [order for order in by_order if sorted(order[:len(lot)]) == list(lot)]
    return len({by_order[order] for order in beginning}) == 1


def likeliest(web, way):
    """The greatest chance, and the least order that has it."""
    by_order = chances(web, way)
    bottom, order = min([(by_order[order][1], order) for order in by_order])
    return ((1, bottom), order)


def unlikeliest(web, way):
    """The least chance, and the least order that has it."""
    by_order = chances(web, way)
    bottom, order = min([(-by_order[order][1], order) for order in by_order])
    return ((1, -bottom), order)
