"""What the other files share: checks, fractions, and lots as bits.

Where many lots are gone through, a lot is an integer, its bits: bit k is 1
if name k is in the lot. A list of needs has, for each name, the bits of the
names that must have come before it may come.
"""

from math import gcd, lcm


def is_integer(thing):
    return isinstance(thing, int) and not isinstance(thing, bool)


def is_name(many, thing):
    """Whether a thing is a name of a web of so many names."""
    return is_integer(thing) and 0 <= thing < many


def is_ascending(items):
    """Whether items, of one kind, stand in their order, each once."""
    return all([items[at] < items[at + 1] for at in range(len(items) - 1)])


def is_lot(many, thing):
    """Whether a thing is an ascending tuple of names, perhaps of none."""
    if not isinstance(thing, tuple):
        return False
    return all([is_name(many, name) for name in thing]) and is_ascending(thing)


def is_all_names(many, thing):
    """Whether a thing is a tuple of all names, each once."""
    if not isinstance(thing, tuple) or not all([is_name(many, name) for name in thing]):
        return False
    return sorted(thing) == list(range(many))


def fraction(top, bottom):
    """A fraction in lowest terms, of a bottom that is at least 1."""
    shared = gcd(top, bottom)
    return (top // shared, bottom // shared)


def sum_of(parts):
    """The sum of fractions, whether these are in lowest terms or not."""
    bottom = 1
    for part in parts:
        bottom = lcm(bottom, part[1])
    return fraction(sum([top * (bottom // under) for top, under in parts]), bottom)


def is_less(one, other):
    """Whether a fraction is less than another one."""
    return one[0] * other[1] < other[0] * one[1]


def unevenness_of(bottoms):
    """How uneven a draw is of which each order's chance is one in a number."""
    many = len(bottoms)
    return sum_of([(abs(many - bottom), 2 * many * bottom) for bottom in bottoms])


def are_apart(web, one, other):
    return one != other and (one, other) not in web.befores and (other, one) not in web.befores


def pieces_of(lot, pairs):
    """The parts of a lot of which the names hang together by pairs, by their least names."""
    piece = {name: (name,) for name in lot}
    for one, other in pairs:
        if one in piece and other in piece and piece[one] != piece[other]:
            joined = tuple(sorted([*piece[one], *piece[other]]))
            for name in joined:
                piece[name] = joined
    return sorted(set(list(piece.values())))


def bits_of(lot):
    return sum([1 << name for name in lot])


def lot_of(many, bits):
    return tuple([name for name in range(many) if (bits >> name) & 1])


def ahead_bits(web):
    """For each name the bits of those ahead of it: the needs of a web."""
    needs = [0] * web.many
    for one, other in web.befores:
        needs[other] |= 1 << one
    return needs


def behind_bits(web):
    """For each name the bits of those behind it: the needs of the turned web."""
    needs = [0] * web.many
    for one, other in web.befores:
        needs[one] |= 1 << other
    return needs


def befores_by(behind):
    """The ascending tuple of all befores, from the bits of those behind each name."""
    many = len(behind)
    return tuple([(one, other) for one in range(many) for other in lot_of(many, behind[one])])


def is_open(behind, one, other):
    """Whether two names are unlike, and apart by the bits of those behind each name."""
    return one != other and not (behind[one] >> other) & 1 and not (behind[other] >> one) & 1


def open_by(behind):
    """The pairs of names that are apart, the lesser one first, ascending."""
    many = len(behind)
    return [(one, other) for one in range(many) for other in range(one + 1, many)
            if is_open(behind, one, other)]


def answered(behind, one, other):
    """Who is behind each name, as bits, once it is known that the one comes ahead of the other."""
    later = behind[other] | (1 << other)
    return tuple([bits | later if name == one or (bits >> one) & 1 else bits
                  for name, bits in enumerate(behind)])


def order_by(behind):
    """The only order there is where no names are apart."""
    # Of two names the one ahead has all behind it that the other has, and the other too.
    return tuple(sorted(range(len(behind)), key=lambda name: -behind[name]))


def is_closed(needs, bits):
    """Whether with each name of a lot all those that it needs are in the lot."""
    needed = [needs[name] for name in lot_of(len(needs), bits)]
    return all([(need & bits) == need for need in needed])


def is_closed_lot(web, thing):
    """Whether a thing is a closed lot of a web."""
    return is_lot(web.many, thing) and is_closed(ahead_bits(web), bits_of(thing))


def comers(needs, gone):
    """The names, ascending, that may come when those of the bits are gone."""
    names = range(len(needs))
    return [name for name in names if not (gone >> name) & 1 and (needs[name] & gone) == needs[name]]


def closed_bits(needs):
    """The bits of all closed lots, each behind those that are parts of it."""
    return [bits for bits in range(1 << len(needs)) if is_closed(needs, bits)]


def nexts_of(needs):
    """For the bits of each closed lot the names that may come behind it, ascending."""
    return {gone: comers(needs, gone) for gone in closed_bits(needs)}


def ways_on(nexts):
    """For each lot, by its bits, the number of ways to go on to the end.

    The nexts have, for each lot that may be gone, those who may come next.
    """
    every = max(list(nexts))
    ways = {every: 1}
    for gone in sorted(nexts, reverse=True):
        if gone != every:
            ways[gone] = sum([ways[gone | (1 << name)] for name in nexts[gone]])
    return ways


def rests(needs):
    """For the bits of each closed lot the number of ways to go on to the end."""
    return ways_on(nexts_of(needs))


def row_at(nexts, ways, number):
    """The row with a number among all rows, ascending, that go by the nexts to the end."""
    row = ()
    gone = 0
    left = number
    while nexts[gone]:
        name = max([one for one in nexts[gone] if _ways_past(nexts, ways, gone, one) <= left])
        left -= _ways_past(nexts, ways, gone, name)
        row = (*row, name)
        gone |= 1 << name
    return row


def row_number(nexts, ways, row):
    """The number of a row among all rows, ascending, that go by the nexts to the end."""
    number = 0
    gone = 0
    for name in row:
        number += _ways_past(nexts, ways, gone, name)
        gone |= 1 << name
    return number


def _ways_past(nexts, ways, gone, name):
    """How many ways to go on have a lesser name next."""
    return sum([ways[gone | (1 << one)] for one in nexts[gone] if one < name])
