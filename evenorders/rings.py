"""Rings of standings, which bar tickets by which all orders are alike likely."""

from evenorders.basics import ahead_bits, bits_of, comers, is_closed_lot, is_name, rests
from evenorders.tickets import likely_tickets, lot_ahead, misfit, reached_from


def ring(web):
    """A ring, None if there is none."""
    found = misfit(web, likely_tickets(web))
    if found is None:
        return None
    # The tickets fit on all this way, so that what does not fit is not made good on it.
    way = _way(reached_from(web), found[2], found[1])
    return [found, *[(lot_ahead(web, one, other), one, other) for one, other in zip(way, way[1:])]]


def _way(reached, one, other):
    """The way from one name to another by who is reached from whom."""
    back = [other]
    while reached[back[-1]] is not None:
        back.append(reached[back[-1]])
    way = [one]
    while way[-1] not in back:
        way.append(reached[way[-1]])
    return [*way, *back[:back.index(way[-1])][::-1]]


def is_ring(web, thing):
    if not isinstance(thing, list) or len(thing) < 2:
        return False
    if not all([_is_link(web, item) for item in thing]):
        return False
    if any([link[2] != after[1] for link, after in zip(thing, [*thing[1:], thing[0]])]):
        return False
    ways = rests(ahead_bits(web))
    top = 1
    bottom = 1
    for lot, one, other in thing:
        top *= ways[bits_of(lot) | (1 << one)]
        bottom *= ways[bits_of(lot) | (1 << other)]
    return top != bottom


def _is_link(web, thing):
    """Whether a thing is a closed lot and two unlike names that may come behind it."""
    if not isinstance(thing, tuple) or len(thing) != 3 or not is_closed_lot(web, thing[0]):
        return False
    if not is_name(web.many, thing[1]) or not is_name(web.many, thing[2]) or thing[1] == thing[2]:
        return False
    names = comers(ahead_bits(web), bits_of(thing[0]))
    return thing[1] in names and thing[2] in names
