"""The orders of a web, counted, listed and numbered."""

from evenorders.basics import ahead_bits, bits_of, comers, is_all_names, is_closed_lot
from evenorders.basics import is_integer, nexts_of, rests, row_at, row_number, ways_on
from evenorders.errors import NoLot, NoNumber, NoOrder, TooMany

MOST_ORDERS = 5000


def is_order(web, thing):
    if not is_all_names(web.many, thing):
        return False
    place = {name: at for at, name in enumerate(thing)}
    return all([place[one] < place[other] for one, other in web.befores])


def count(web):
    return rests(ahead_bits(web))[0]


def orders(web):
    """All orders, ascending."""
    if count(web) > MOST_ORDERS:
        raise TooMany(MOST_ORDERS)
    needs = ahead_bits(web)
    rows = [()]
    for _ in range(web.many):
        rows = [(*row, name) for row in rows for name in comers(needs, bits_of(row))]
    return rows


def order_at(web, number):
    """The order with a number in the ascending list of all."""
    nexts = nexts_of(ahead_bits(web))
    ways = ways_on(nexts)
    if not is_integer(number) or not 0 <= number < ways[0]:
        raise NoNumber()
    return row_at(nexts, ways, number)


def order_number(web, order):
    if not is_order(web, order):
        raise NoOrder()
    nexts = nexts_of(ahead_bits(web))
    return row_number(nexts, ways_on(nexts), order)


def rest(web, lot):
    """The number of ways to go on behind a closed lot."""
    if not is_closed_lot(web, lot):
        raise NoLot()
    return rests(ahead_bits(web))[bits_of(lot)]
