"""Whom a way of drawing favours, and how uneven it is."""

from evenorders.basics import is_less, is_name, sum_of, unevenness_of
from evenorders.errors import NoName, NoPlace
from evenorders.shares import mean_place, place_share
from evenorders.ways import WAYS, chances, check_way


def place_chance(web, way, name, place):
    """The chance with which a way puts a name at a place."""
    check_way(way)
    if not is_name(web.many, name):
        raise NoName()
    # Places are numbered as names are.
    if not is_name(web.many, place):
        raise NoPlace()
    return _chance_there(chances(web, way), name, place)


def _chance_there(by_order, name, place):
    return sum_of([by_order[order] for order in by_order if order[place] == name])


def favour(web, way):
    """For each name its mean place in the even draw less that by the way."""
    by_order = chances(web, way)
    return tuple([_favour_of(web, by_order, name) for name in range(web.many)])


def _favour_of(web, by_order, name):
    places = [(order.index(name), by_order[order][1]) for order in by_order]
    top, bottom = sum_of(places)
    return sum_of([mean_place(web, name), (-top, bottom)])


def fair(web, way):
    """Whether a way puts each name at each place as likely as the even draw."""
    by_order = chances(web, way)
    names = range(web.many)
    return all([_chance_there(by_order, name, place) == place_share(web, name, place)
                for name in names for place in names])


def unevenness(web, way):
    by_order = chances(web, way)
    return unevenness_of([by_order[order][1] for order in by_order])


def least_uneven(web):
    """The ways of which the unevenness is least."""
    found = {way: unevenness(web, way) for way in WAYS}
    return tuple([way for way in WAYS
                  if not any([is_less(found[other], found[way]) for other in WAYS])])
