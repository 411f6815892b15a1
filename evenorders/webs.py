"""Webs of befores, and who comes ahead of whom in them."""

from evenorders.basics import ahead_bits, befores_by, bits_of, closed_bits, comers
from evenorders.basics import is_ascending, is_closed_lot, is_integer, is_name, lot_of
from evenorders.errors import BadWeb, NoLot, NoName

MOST_NAMES = 8


class Web:
    """Names from 0 to many - 1, and all pairs of which the one must come ahead."""

    def __init__(self, many, befores):
        if not is_integer(many) or not 1 <= many <= MOST_NAMES:
            raise BadWeb("many")
        if not _are_befores(many, befores):
            raise BadWeb("befores")
        following = _with_following(many, befores)
        if any([one == other for one, other in following]):
            raise BadWeb("ring")
        self.many = many
        self.befores = following

    def __eq__(self, other):
        return isinstance(other, Web) and self.many == other.many and self.befores == other.befores


def _is_before(many, thing):
    if not isinstance(thing, tuple) or len(thing) != 2:
        return False
    return is_name(many, thing[0]) and is_name(many, thing[1]) and thing[0] != thing[1]


def _are_befores(many, thing):
    if not isinstance(thing, tuple):
        return False
    return all([_is_before(many, item) for item in thing]) and is_ascending(thing)


def _with_following(many, befores):
    """The befores and all that follow, a name ahead of itself if there is a ring."""
    behind = [0] * many
    for one, other in befores:
        behind[one] |= 1 << other
    for between in range(many):
        for one in range(many):
            if (behind[one] >> between) & 1:
                behind[one] |= behind[between]
    return befores_by(behind)


def ahead_of(web, name):
    if not is_name(web.many, name):
        raise NoName()
    return tuple([one for one, other in web.befores if other == name])


def behind_of(web, name):
    if not is_name(web.many, name):
        raise NoName()
    return tuple([other for one, other in web.befores if one == name])


def straight(web):
    """The befores that do not follow from others."""
    return [pair for pair in web.befores if not _has_between(web, pair)]


def _has_between(web, pair):
    names = range(web.many)
    return any([(pair[0], name) in web.befores and (name, pair[1]) in web.befores for name in names])


def open_pairs(web):
    pairs = [(one, other) for one in range(web.many) for other in range(one + 1, web.many)]
    return [(one, other) for one, other in pairs
            if (one, other) not in web.befores and (other, one) not in web.befores]


def closed_lots(web):
    return sorted([lot_of(web.many, bits) for bits in closed_bits(ahead_bits(web))])


def may_come(web, lot):
    if not is_closed_lot(web, lot):
        raise NoLot()
    return tuple(comers(ahead_bits(web), bits_of(lot)))
