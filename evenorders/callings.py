"""Callings that are even at every moment, and what bars them."""

from itertools import combinations, permutations

from evenorders.basics import ahead_bits, are_apart, behind_bits, bits_of, is_integer, lot_of
from evenorders.basics import row_at, row_number, ways_on
from evenorders.errors import NoCalling, NoNumber
from evenorders.gaps import check_calling, gap_rows, gaps, is_row


def even_calling(web, calling):
    """Whether a calling is even at every moment."""
    check_calling(web, calling)
    return _steadily_called(web, calling) == web.many


def _steadily_called(web, calling):
    """How many names are called ahead of the first one that is not steady, or at all."""
    called = 0
    while called < web.many and calling[called] in _steady_names(web, bits_of(calling[:called])):
        called += 1
    return called


def _steady_names(web, called):
    """Who has the same number of gaps in all rows of those called, ascending."""
    ahead = ahead_bits(web)
    behind = behind_bits(web)
    names = [name for name in range(web.many) if not (called >> name) & 1]
    return [name for name in names if _is_steady(ahead, behind, called, name)]


def _is_steady(ahead, behind, called, name):
    """Whether a name has the same number of gaps in all rows of those called.

    Its gaps begin behind the last one of those who are ahead of it. Whoever is
    apart from it changes their number where exchanged with this last one; and
    there is a row in which this can be, unless all of these are ahead of
    whoever it is. Likewise at the other end.
    """
    start = ahead[name] & called
    end = behind[name] & called
    others = lot_of(len(ahead), called & ~(start | end))
    return all([ahead[other] & start == start and behind[other] & end == end for other in others])


def moment(web, calling):
    """The first moment at which the next one's gaps are not as many in all
    rows, with two such rows; None if there is none."""
    check_calling(web, calling)
    called = _steadily_called(web, calling)
    if called == web.many:
        return None
    rows = gap_rows(web, calling[:called])
    by_number = sorted([(gaps(web, row, calling[called]), row) for row in rows])
    return (called, by_number[0][1], by_number[-1][1])


def is_moment(web, calling, thing):
    """Whether a thing is a number of names called, and two rows of these in
    which the next one has unlike numbers of gaps."""
    check_calling(web, calling)
    if not isinstance(thing, tuple) or len(thing) != 3:
        return False
    if not is_integer(thing[0]) or not 1 <= thing[0] < web.many:
        return False
    called, row, other = thing
    if not is_row(web, row) or not is_row(web, other):
        return False
    names = sorted(calling[:called])
    if sorted(row) != names or sorted(other) != names:
        return False
    return gaps(web, row, calling[called]) != gaps(web, other, calling[called])


def calling(web):
    """The least calling that is even at every moment, None if there is none."""
    return calling_at(web, 0) if count_callings(web) else None


def count_callings(web):
    return ways_on(_steady_nexts(web))[0]


def _steady_nexts(web):
    """For the bits of each lot of those called the names that may be called next."""
    return {called: _steady_names(web, called) for called in range(1 << web.many)}


def end_even(web, calling):
    """Whether all orders are drawn alike likely by gaps."""
    check_calling(web, calling)
    rows = gap_rows(web, calling)
    return len({rows[row] for row in rows}) == 1


def an_n(web):
    """The least N, None if there is none."""
    return _least_four(web, [(0, 2), (1, 2), (1, 3)])


def two_pairs(web):
    """The least two pairs, None if there are none."""
    return _least_four(web, [(0, 2), (1, 3)])


def _least_four(web, befores):
    """The least four names of which just those at the places told are ahead."""
    for names in permutations(range(web.many), 4):
        if all([_stand_so(web, names, pair, pair in befores) for pair in combinations(range(4), 2)]):
            return names
    return None


def _stand_so(web, names, pair, is_before):
    """Whether of the names at two places one is ahead as told, or both are apart."""
    one, other = (names[pair[0]], names[pair[1]])
    return (one, other) in web.befores if is_before else are_apart(web, one, other)


def calling_at(web, number):
    """The calling with a number in the ascending list of all that are even at every moment."""
    nexts = _steady_nexts(web)
    ways = ways_on(nexts)
    if not is_integer(number) or not 0 <= number < ways[0]:
        raise NoNumber()
    return row_at(nexts, ways, number)


def calling_number(web, calling):
    """The number of a calling in the list of all that are even at every moment."""
    if not even_calling(web, calling):
        raise NoCalling()
    nexts = _steady_nexts(web)
    return row_number(nexts, ways_on(nexts), calling)
