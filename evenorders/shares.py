"""Where names stand, and who is ahead, in the even draw."""

from evenorders.basics import ahead_bits, bits_of, closed_bits, comers, fraction
from evenorders.basics import is_closed_lot, is_name, lot_of, rests
from evenorders.errors import NoLot, NoName, NoPlace
from evenorders.making import with_before
from evenorders.orders import count


def place_share(web, name, place):
    if not is_name(web.many, name):
        raise NoName()
    # Places are numbered as names are.
    if not is_name(web.many, place):
        raise NoPlace()
    numbers = _orders_by_place(web, name)
    return fraction(numbers[place], sum(numbers))


def _orders_by_place(web, name):
    """For each place the number of orders in which the name stands there."""
    needs = ahead_bits(web)
    ways_on = rests(needs)
    ways_there = _arrivals(needs)
    numbers = [0] * web.many
    for gone in ways_there:
        if name in comers(needs, gone):
            place = len(lot_of(web.many, gone))
            numbers[place] += ways_there[gone] * ways_on[gone | (1 << name)]
    return numbers


def _arrivals(needs):
    """For the bits of each closed lot the number of ways in which it may have come."""
    closed = closed_bits(needs)
    ways = {gone: 0 for gone in closed}
    ways[0] = 1
    for gone in closed:
        for name in comers(needs, gone):
            ways[gone | (1 << name)] += ways[gone]
    return ways


def ahead_share(web, one, other):
    if not is_name(web.many, one) or not is_name(web.many, other) or one == other:
        raise NoName()
    if (other, one) in web.befores:
        return (0, 1)
    return fraction(count(with_before(web, one, other)), count(web))


def mean_place(web, name):
    if not is_name(web.many, name):
        raise NoName()
    numbers = _orders_by_place(web, name)
    return fraction(sum([place * numbers[place] for place in range(web.many)]), sum(numbers))


def next_shares(web, lot):
    """With which shares of the orders each comes next behind a closed lot."""
    if not is_closed_lot(web, lot) or len(lot) == web.many:
        raise NoLot()
    needs = ahead_bits(web)
    ways = rests(needs)
    gone = bits_of(lot)
    return {name: fraction(ways[gone | (1 << name)], ways[gone]) for name in comers(needs, gone)}
