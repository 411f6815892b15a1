"""How uneven draws by gaps are, and for which calling least."""

from itertools import permutations

from evenorders.basics import is_less, unevenness_of
from evenorders.errors import TooMany
from evenorders.gaps import check_calling, gap_rows
from evenorders.orders import MOST_ORDERS, count

MOST_NAMES_HERE = 5


def gap_unevenness(web, calling):
    """The unevenness of the draw by gaps for a calling."""
    check_calling(web, calling)
    if count(web) > MOST_ORDERS:
        raise TooMany(MOST_ORDERS)
    rows = gap_rows(web, calling)
    return unevenness_of([rows[row] for row in rows])


def nearest_calling(web):
    """The least unevenness by gaps, and the least calling that has it."""
    if web.many > MOST_NAMES_HERE:
        raise TooMany(MOST_NAMES_HERE)
    best = None
    for calling in permutations(range(web.many)):
        found = gap_unevenness(web, calling)
        if best is None or is_less(found, best[0]):
            best = (found, calling)
    return best
