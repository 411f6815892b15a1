"""Orders drawn by putting one name after another into a gap."""

from evenorders.basics import is_all_names, is_name
from evenorders.errors import NoCalling, NoName, NoOrder, NoRow
from evenorders.orders import is_order


def gaps(web, row, name):
    """How many gaps of a row a name can be put into."""
    if not is_row(web, row):
        raise NoRow()
    if not is_name(web.many, name) or name in row:
        raise NoName()
    first, last = _gaps_between(web, row, name)
    return last - first + 1


def is_row(web, thing):
    if not isinstance(thing, tuple) or not all([is_name(web.many, name) for name in thing]):
        return False
    if len(set(thing)) < len(thing):
        return False
    return not any([(later, name) in web.befores
                    for at, name in enumerate(thing) for later in thing[at:]])


def _gaps_between(web, row, name):
    """The first and the last gap of a row for a name; that ahead of all is 0."""
    first = max([0, *[at + 1 for at, other in enumerate(row) if (other, name) in web.befores]])
    last = min([len(row), *[at for at, other in enumerate(row) if (name, other) in web.befores]])
    return (first, last)


def gap_chance(web, calling, order):
    """The chance with which an order is drawn by gaps for a calling."""
    check_calling(web, calling)
    if not is_order(web, order):
        raise NoOrder()
    bottom = 1
    for called, name in enumerate(calling):
        row = tuple([other for other in order if other in calling[:called]])
        bottom *= gaps(web, row, name)
    return (1, bottom)


def check_calling(web, thing):
    if not is_all_names(web.many, thing):
        raise NoCalling()


def gap_rows(web, names):
    """All rows of names, drawn by gaps one after another, each with the number
    of which its chance is one part."""
    rows = {(): 1}
    for name in names:
        found = {}
        for row in rows:
            first, last = _gaps_between(web, row, name)
            for at in range(first, last + 1):
                longer = (*row[:at], name, *row[at:])
                found[longer] = rows[row] * (last - first + 1)
        rows = found
    return rows
