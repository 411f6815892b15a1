"""Webs told by some of their orders."""

from itertools import combinations

from evenorders.basics import is_all_names
from evenorders.errors import NoRows, TooMany
from evenorders.orders import count, orders
from evenorders.webs import MOST_NAMES, Web

MOST_ROWS = 1000
MOST_NAMES_HERE = 5


def common_web(rows):
    """The web of all befores that stand in all rows."""
    if not _are_rows(rows):
        raise NoRows()
    return Web(len(rows[0]), tuple(_common_befores(rows)))


def _are_rows(thing):
    if not isinstance(thing, (list, tuple)) or not 1 <= len(thing) <= MOST_ROWS:
        return False
    if not isinstance(thing[0], tuple) or not 1 <= len(thing[0]) <= MOST_NAMES:
        return False
    return all([is_all_names(len(thing[0]), row) for row in thing])


def _common_befores(rows):
    """The pairs of which the one stands ahead of the other in all rows, ascending."""
    first = rows[0]
    pairs = [(first[at], other) for at in range(len(first)) for other in first[at + 1:]]
    for row in rows:
        place = {name: at for at, name in enumerate(row)}
        pairs = [(one, other) for one, other in pairs if place[one] < place[other]]
    return sorted(pairs)


def are_all(rows):
    """Whether rows are just the orders of some web."""
    if not _are_rows(rows):
        raise NoRows()
    # All of them are orders of their common web, and only this web can have just them.
    return len(set(rows)) == count(common_web(rows))


def fewest_rows(web):
    """The least number of orders of which the web is the common one, and the least ones."""
    if web.many > MOST_NAMES_HERE:
        raise TooMany(MOST_NAMES_HERE)
    found = orders(web)
    number = 1
    rows = _least_rows(web, found, number)
    while rows is None:
        number += 1
        rows = _least_rows(web, found, number)
    return (number, rows)


def _least_rows(web, found, number):
    """The least rows, so many of those found, whose web it is, None if there are none."""
    for rows in combinations(found, number):
        if len(_common_befores(rows)) == len(web.befores):
            return rows
    return None
