"""Webs made of other webs."""

from evenorders.basics import is_all_names, is_lot, is_name
from evenorders.errors import NoBefore, NoLot, NoName, NoNames, TooMany
from evenorders.webs import MOST_NAMES, Web, ahead_of, behind_of, straight


def turned(web):
    return _web_of_pairs(web.many, [(other, one) for one, other in web.befores])


def _web_of_pairs(many, pairs):
    return Web(many, tuple(sorted(pairs)))


def renamed(web, names):
    if not is_all_names(web.many, names):
        raise NoNames()
    return _web_of_pairs(web.many, [(names[one], names[other]) for one, other in web.befores])


def part(web, lot):
    if not is_lot(web.many, lot) or not lot:
        raise NoLot()
    number = {name: at for at, name in enumerate(lot)}
    kept = [(one, other) for one, other in web.befores if one in number and other in number]
    return _web_of_pairs(len(lot), [(number[one], number[other]) for one, other in kept])


def side_by_side(one, other):
    return _joined(one, other, [])


def one_behind(one, other):
    behind = range(one.many, one.many + other.many)
    return _joined(one, other, [(name, later) for name in range(one.many) for later in behind])


def _joined(one, other, between):
    """Both webs in one, with befores between the names of the one and of the other."""
    if one.many + other.many > MOST_NAMES:
        raise TooMany(MOST_NAMES)
    later = [(ahead + one.many, behind + one.many) for ahead, behind in other.befores]
    return _web_of_pairs(one.many + other.many, [*one.befores, *later, *between])


def with_before(web, one, other):
    if not is_name(web.many, one) or not is_name(web.many, other):
        raise NoName()
    if one == other or (other, one) in web.befores:
        raise NoBefore()
    others = [pair for pair in web.befores if pair != (one, other)]
    return _web_of_pairs(web.many, [*others, (one, other)])


def without_before(web, one, other):
    if not is_name(web.many, one) or not is_name(web.many, other):
        raise NoName()
    if (one, other) not in straight(web):
        raise NoBefore()
    return _web_of_pairs(web.many, [pair for pair in web.befores if pair != (one, other)])


def naming(one, other):
    if one.many != other.many:
        return None
    return _naming_on(one, other, ())


def _naming_on(one, other, names):
    """The least naming that begins with these names, None if there is none."""
    if len(names) == one.many:
        return names
    for name in range(one.many):
        if name not in names and _fits(one, other, (*names, name)):
            found = _naming_on(one, other, (*names, name))
            if found is not None:
                return found
    return None


def _fits(one, other, names):
    """Whether the last of the names can have its new name, by the names ahead of it here."""
    last = len(names) - 1
    # This is looked at first because it ends most namings that lead nowhere early.
    if _numbers_around(one, last) != _numbers_around(other, names[last]):
        return False
    for name in range(last):
        if ((name, last) in one.befores) != ((names[name], names[last]) in other.befores):
            return False
        if ((last, name) in one.befores) != ((names[last], names[name]) in other.befores):
            return False
    return True


def _numbers_around(web, name):
    return (len(ahead_of(web, name)), len(behind_of(web, name)))
