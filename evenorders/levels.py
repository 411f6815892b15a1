"""Levels, threes, and orders that a way draws with unlike chances."""

from evenorders.basics import ahead_bits, are_apart, bits_of, comers
from evenorders.orders import is_order, order_at
from evenorders.ways import chance, check_way, even
from evenorders.webs import ahead_of, open_pairs


def levels(web):
    """The levels, None if there are none."""
    # Of two names one ahead of the other, the one has fewer ahead of it. So
    # those with as many are apart, and no others may be.
    ahead = [len(ahead_of(web, name)) for name in range(web.many)]
    if any([ahead[one] != ahead[other] for one, other in open_pairs(web)]):
        return None
    return tuple([_with_as_many(ahead, number) for number in sorted(set(ahead))])


def _with_as_many(numbers, number):
    return tuple([name for name in range(len(numbers)) if numbers[name] == number])


def three(web):
    """The least three, None if there is none."""
    found = [(x, z, y) for x, z in web.befores for y in range(web.many)
             if are_apart(web, x, y) and are_apart(web, z, y)]
    return found[0] if found else None


def unlike(web, way):
    """The least order and one with another chance, None if there is none."""
    if even(web, way):
        return None
    needs = ahead_bits(web)
    least = order_at(web, 0)
    # Rows that are still to be gone on with; the last one is gone on with first.
    rows = [()]
    while len(rows[-1]) < web.many or chance(web, way, rows[-1]) == chance(web, way, least):
        row = rows.pop()
        rows.extend([(*row, name) for name in comers(needs, bits_of(row))])
    return (least, rows[-1])


def is_unlike(web, way, thing):
    """Whether a thing is a pair of orders that a way draws with unlike chances."""
    check_way(way)
    if not isinstance(thing, tuple) or len(thing) != 2:
        return False
    if not is_order(web, thing[0]) or not is_order(web, thing[1]):
        return False
    return chance(web, way, thing[0]) != chance(web, way, thing[1])
