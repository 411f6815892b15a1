"""Strangers' ways to ask, and asks that have prices."""

from evenorders.asks import check_few, known_of, least_sum, sums_by_first
from evenorders.basics import answered, befores_by, is_integer, is_name, is_open, open_by
from evenorders.errors import BadAsker, NoOrder, NoPrices
from evenorders.orders import is_order, orders
from evenorders.webs import open_pairs

MOST_PRICE = 1000000


def asks_of(web, asker, order):
    """The pairs that an asker returns until just one order is left."""
    if not is_order(web, order):
        raise NoOrder()
    known = known_of(web)
    asks = []
    while open_by(known):
        befores = befores_by(known)
        ask = asker(befores)
        if not _is_ask(known, ask):
            raise BadAsker(befores)
        asks.append(ask)
        one, other = sorted(ask, key=lambda name: order.index(name))
        known = answered(known, one, other)
    return asks


def _is_ask(known, thing):
    """Whether a thing is a pair of names that are apart by what is known."""
    if not isinstance(thing, tuple) or len(thing) != 2:
        return False
    many = len(known)
    return is_name(many, thing[0]) and is_name(many, thing[1]) and is_open(known, thing[0], thing[1])


def worst_of(web, asker):
    """The greatest number of asks for an order, and the least order that has it."""
    worst = None
    for order in orders(web):
        number = len(asks_of(web, asker, order))
        if worst is None or number > worst[0]:
            worst = (number, order)
    return worst


def cheapest_asks(web, prices):
    """The least sum of prices that is enough, whatever is answered."""
    by_pair = _prices_by_pair(web, prices)
    check_few(web)
    return least_sum(known_of(web), by_pair, {})


def _prices_by_pair(web, thing):
    pairs = open_pairs(web)
    if not isinstance(thing, tuple) or len(thing) != len(pairs):
        raise NoPrices()
    if not all([is_integer(price) and 0 <= price <= MOST_PRICE for price in thing]):
        raise NoPrices()
    return {pair: price for pair, price in zip(pairs, thing)}


def cheap_first(web, prices):
    """The least pair with which as the first ask this sum is enough, None if there is none."""
    by_pair = _prices_by_pair(web, prices)
    check_few(web)
    sums = sums_by_first(known_of(web), by_pair, {})
    return min(list(sums), key=lambda pair: (sums[pair], pair), default=None)
