"""The orders of a web, counted, listed and numbered."""

from evenorders.basics import ahead_bits, bits_of, comers, is_all_names, is_closed_lot
from evenorders.basics import is_integer, rests
from evenorders.errors import NoLot, NoNumber, NoOrder, TooMany

MOST_ORDERS = 5000


def is_order(web, thing):
    if not is_all_names(web.many, thing):
        return False
    place = {name: at for at, name in enumerate(thing)}
    return all([place[one] < place[other] for one, other in web.befores])


def count(web):
    return rests(ahead_bits(web))[0]


def orders(web):
    """All orders, ascending."""
    if count(web) > MOST_ORDERS:
        raise TooMany(MOST_ORDERS)
    needs = ahead_bits(web)
    rows = [()]
    for _ in range(web.many):
        rows = [(*row, name) for row in rows for name in comers(needs, bits_of(row))]
    return rows


def order_at(web, number):
    """The order with a number in the ascending list of all."""
    needs = ahead_bits(web)
    ways = rests(needs)
    if not is_integer(number) or not 0 <= number < ways[0]:
        raise NoNumber()
    row = ()
    gone = 0
    left = number
    while len(row) < web.many:
        name, skipped = _next_by_number(needs, ways, gone, left)
        row = (*row, name)
        gone |= 1 << name
        left -= skipped
    return row


def _next_by_number(needs, ways, gone, left):
    """Who comes next in the row with a number among those that go on, and how
    many of these have a lesser one next."""
    skipped = 0
    for name in comers(needs, gone):
        here = ways[gone | (1 << name)]
        if left < skipped + here:
            break
        skipped += here
    return (name, skipped)


def order_number(web, order):
    if not is_order(web, order):
        raise NoOrder()
    needs = ahead_bits(web)
    ways = rests(needs)
    number = 0
    gone = 0
    for name in order:
        lesser = [other for other in comers(needs, gone) if other < name]
        number += sum([ways[gone | (1 << other)] for other in lesser])
        gone |= 1 << name
    return number


def rest(web, lot):
    """The number of ways to go on behind a closed lot."""
    if not is_closed_lot(web, lot):
        raise NoLot()
    return rests(ahead_bits(web))[bits_of(lot)]
