"""Rows of some names, and draws by gaps, worked out from what the document says of them."""

from fractions import Fraction
from itertools import combinations, permutations


def is_allowed(web, row):
    return not any((later, name) in web.befores for name, later in combinations(row, 2))


def all_rows(web):
    """All rows of names of a web, that of none, too."""
    return [row for size in range(web.many + 1) for row in permutations(range(web.many), size)
            if is_allowed(web, row)]


def rows_of(web, names):
    return [row for row in permutations(names) if is_allowed(web, row)]


def put_in(web, row, name):
    """What comes if a name is put into each of its gaps."""
    found = [(*row[:at], name, *row[at:]) for at in range(len(row) + 1)]
    return [longer for longer in found if is_allowed(web, longer)]


def brute_gap_chances(web, calling):
    """The chances of all orders drawn by gaps for a calling."""
    chances = {(calling[0],): Fraction(1)}
    for name in calling[1:]:
        following = {}
        for row in chances:
            longer = put_in(web, row, name)
            for found in longer:
                following[found] = chances[row] / len(longer)
        chances = following
    return chances


def brute_is_even(web, calling):
    """Whether each name but the first has as many gaps in all rows of those called."""
    for called in range(1, web.many):
        numbers = [len(put_in(web, row, calling[called]))
                   for row in rows_of(web, calling[:called])]
        if len(set(numbers)) > 1:
            return False
    return True
