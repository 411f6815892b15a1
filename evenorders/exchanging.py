"""Orders that come of others by turning neighbours about."""

from itertools import combinations

from evenorders.errors import NoOrder, TooMany
from evenorders.orders import count, is_order, orders

MOST_ORDERS_HERE = 200


def exchanges(web, order):
    """The orders that come of an order by one exchange, ascending."""
    if not is_order(web, order):
        raise NoOrder()
    return sorted([_turned_at(order, at) for at in range(web.many - 1)
                   if (order[at], order[at + 1]) not in web.befores])


def _turned_at(row, at):
    return (*row[:at], row[at + 1], row[at], *row[at + 2:])


def far(web, one, other):
    """The least number of exchanges from one order to another one."""
    _check_both(web, one, other)
    return _pairs_turned(one, other)


def _check_both(web, one, other):
    if not is_order(web, one) or not is_order(web, other):
        raise NoOrder()


def _pairs_turned(one, other):
    """The number of pairs that stand otherwise in both orders.

    An exchange turns just one pair about; and where pairs are still to be
    turned, two neighbours are such a pair, and apart.
    """
    place = {name: at for at, name in enumerate(other)}
    row = [place[name] for name in one]
    return len([1 for at in range(len(row)) for later in row[at + 1:] if row[at] > later])


def way_there(web, one, other):
    """Orders from one to another, each by an exchange, as few as can be."""
    _check_both(web, one, other)
    place = {name: at for at, name in enumerate(other)}
    way = [one]
    while way[-1] != other:
        row = way[-1]
        turning = [at for at in range(web.many - 1) if place[row[at]] > place[row[at + 1]]]
        way.append(_turned_at(row, turning[0]))
    return way


def is_way_there(web, one, other, thing):
    _check_both(web, one, other)
    if not isinstance(thing, list) or not thing:
        return False
    if not all([is_order(web, item) for item in thing]):
        return False
    if thing[0] != one or thing[-1] != other:
        return False
    return all([_pairs_turned(row, thing[at + 1]) == 1 for at, row in enumerate(thing[:-1])])


def farthest(web):
    """The greatest distance of two orders, and the least pair that has it."""
    if count(web) > MOST_ORDERS_HERE:
        raise TooMany(MOST_ORDERS_HERE)
    found = orders(web)
    best = (0, found[0], found[0])
    for one, other in combinations(found, 2):
        number = _pairs_turned(one, other)
        if number > best[0]:
            best = (number, one, other)
    return best
