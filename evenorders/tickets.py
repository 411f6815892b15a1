"""Orders drawn by tickets, and the tickets by which all are alike likely."""

from math import lcm

from evenorders.basics import ahead_bits, are_apart, bits_of, comers, fraction, is_integer
from evenorders.basics import lot_of, pieces_of, rests
from evenorders.errors import NoOrder, NoTickets
from evenorders.orders import is_order
from evenorders.webs import behind_of, open_pairs, straight


def ticket_chance(web, tickets, order):
    """The chance with which an order is drawn by tickets."""
    _check_tickets(web, tickets)
    if not is_order(web, order):
        raise NoOrder()
    needs = ahead_bits(web)
    top = 1
    bottom = 1
    for at, name in enumerate(order):
        top *= tickets[name]
        bottom *= sum([tickets[other] for other in comers(needs, bits_of(order[:at]))])
    return fraction(top, bottom)


def _check_tickets(web, thing):
    if not isinstance(thing, tuple) or len(thing) != web.many:
        raise NoTickets()
    if not all([is_integer(item) and 1 <= item <= 10 ** 40 for item in thing]):
        raise NoTickets()


def even_tickets(web, tickets):
    """Whether all orders are drawn alike likely by tickets."""
    _check_tickets(web, tickets)
    return misfit(web, tickets) is None


def misfit(web, tickets):
    """A closed lot and two names that may come behind it whose tickets stand
    otherwise to each other than the ways to go on behind them do.

    If there is none, each name comes next with the share that the ways behind
    it have of all, and so all orders are alike likely.
    """
    needs = ahead_bits(web)
    ways = rests(needs)
    for gone in ways:
        names = comers(needs, gone)
        for one, other in zip(names, names[1:]):
            if tickets[one] * ways[gone | (1 << other)] != tickets[other] * ways[gone | (1 << one)]:
                return (lot_of(web.many, gone), one, other)
    return None


def tickets(web):
    """The least tickets by which all orders are alike likely, None if there are none."""
    found = likely_tickets(web)
    return found if misfit(web, found) is None else None


def likely_tickets(web):
    """The least tickets by which all orders may be alike likely.

    Names that are apart may come behind one lot, so that their tickets have to
    stand to each other as the ways to go on do; no others ever have to be
    compared. So one name of each piece of names that are apart is free.
    """
    amounts = _amounts(web)
    found = [1] * web.many
    for piece in pieces_of(list(range(web.many)), open_pairs(web)):
        bottom = 1
        for name in piece:
            bottom = lcm(bottom, amounts[name][1])
        for name in piece:
            found[name] = amounts[name][0] * (bottom // amounts[name][1])
    return tuple(found)


def _amounts(web):
    """For each name its tickets, as a fraction, if the first one of its piece has one."""
    ways = rests(ahead_bits(web))
    reached = reached_from(web)
    amounts = {}
    for name in reached:
        amounts[name] = (1, 1)
        other = reached[name]
        if other is not None:
            gone = bits_of(lot_ahead(web, name, other))
            top, bottom = amounts[other]
            amounts[name] = fraction(top * ways[gone | (1 << name)], bottom * ways[gone | (1 << other)])
    return amounts


def reached_from(web):
    """For each name one apart from it from which it is reached, None for the
    first one of each piece; who is reached stands behind where it is reached from."""
    reached = {}
    for name in range(web.many):
        if name not in reached:
            reached[name] = None
            _reach_on(web, name, reached)
    return reached


def _reach_on(web, name, reached):
    for other in range(web.many):
        if other not in reached and are_apart(web, name, other):
            reached[other] = name
            _reach_on(web, other, reached)


def lot_ahead(web, one, other):
    """The least closed lot behind which two names that are apart may both come."""
    return tuple([name for name in range(web.many)
                  if (name, one) in web.befores or (name, other) in web.befores])


def hooks(web):
    """For each name how many come behind it, and one more."""
    return tuple([len(behind_of(web, name)) + 1 for name in range(web.many)])


def is_forest(web):
    """Whether each name has at most one that is straight ahead of it."""
    later = [other for one, other in straight(web)]
    return len(set(later)) == len(later)
