"""What the other files share: checks, fractions, and lots as bits.

Where many lots are gone through, a lot is an integer, its bits: bit k is 1
if name k is in the lot. A list of needs has, for each name, the bits of the
names that must have come before it may come.
"""

from math import gcd


def is_integer(thing):
    return isinstance(thing, int) and not isinstance(thing, bool)


def is_name(many, thing):
    """Whether a thing is a name of a web of so many names."""
    return is_integer(thing) and 0 <= thing < many


def is_ascending(items):
    """Whether items, of one kind, stand in their order, each once."""
    return all([items[at] < items[at + 1] for at in range(len(items) - 1)])


def is_lot(many, thing):
    """Whether a thing is an ascending tuple of names, perhaps of none."""
    if not isinstance(thing, tuple):
        return False
    return all([is_name(many, name) for name in thing]) and is_ascending(thing)


def is_all_names(many, thing):
    """Whether a thing is a tuple of all names, each once."""
    if not isinstance(thing, tuple) or not all([is_name(many, name) for name in thing]):
        return False
    return sorted(thing) == list(range(many))


def fraction(top, bottom):
    """A fraction in lowest terms, of a bottom that is at least 1."""
    shared = gcd(top, bottom)
    return (top // shared, bottom // shared)


def bits_of(lot):
    return sum([1 << name for name in lot])


def lot_of(many, bits):
    return tuple([name for name in range(many) if (bits >> name) & 1])


def ahead_bits(web):
    """For each name the bits of those ahead of it: the needs of a web."""
    needs = [0] * web.many
    for one, other in web.befores:
        needs[other] |= 1 << one
    return needs


def behind_bits(web):
    """For each name the bits of those behind it: the needs of the turned web."""
    needs = [0] * web.many
    for one, other in web.befores:
        needs[one] |= 1 << other
    return needs


def is_closed(needs, bits):
    """Whether with each name of a lot all those that it needs are in the lot."""
    needed = [needs[name] for name in lot_of(len(needs), bits)]
    return all([(need & bits) == need for need in needed])


def is_closed_lot(web, thing):
    """Whether a thing is a closed lot of a web."""
    return is_lot(web.many, thing) and is_closed(ahead_bits(web), bits_of(thing))


def comers(needs, gone):
    """The names, ascending, that may come when those of the bits are gone."""
    names = range(len(needs))
    return [name for name in names if not (gone >> name) & 1 and (needs[name] & gone) == needs[name]]


def closed_bits(needs):
    """The bits of all closed lots, each behind those that are parts of it."""
    return [bits for bits in range(1 << len(needs)) if is_closed(needs, bits)]


def rests(needs):
    """For the bits of each closed lot the number of ways to go on to the end."""
    ways = {}
    for gone in reversed(closed_bits(needs)):
        found = comers(needs, gone)
        ways[gone] = sum([ways[gone | (1 << name)] for name in found]) if found else 1
    return ways
