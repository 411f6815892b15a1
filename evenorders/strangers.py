"""Strangers' drawers, which tell by which tickets the next one is drawn."""

from evenorders.basics import ahead_bits, bits_of, comers, fraction, is_integer
from evenorders.errors import BadDrawer, NoOrder
from evenorders.orders import is_order, orders


def drawn(web, drawer, order):
    """The chance with which a drawer draws an order."""
    if not is_order(web, order):
        raise NoOrder()
    needs = ahead_bits(web)
    top = 1
    bottom = 1
    for at, name in enumerate(order):
        by_name = _tickets_behind(needs, drawer, order[:at])
        if by_name.get(name, 0) == 0:
            return (0, 1)
        top *= by_name[name]
        bottom *= sum([by_name[other] for other in by_name])
    return fraction(top, bottom)


def _tickets_behind(needs, drawer, row):
    """The tickets that a drawer gives behind a row."""
    by_name = drawer(row)
    if not _are_tickets(comers(needs, bits_of(row)), by_name):
        raise BadDrawer(row)
    return by_name


def _are_tickets(names, thing):
    """Whether a thing gives tickets, not 0 in all, to some of the names and to nobody else."""
    if not isinstance(thing, dict) or not all([is_integer(key) and key in names for key in thing]):
        return False
    amounts = [thing[key] for key in thing]
    return all([is_integer(amount) and amount >= 0 for amount in amounts]) and sum(amounts) > 0


def judged(web, drawer):
    """The least order, and the least one that is drawn with another chance, None if there is none."""
    found = orders(web)
    needs = ahead_bits(web)
    rows = {(): (1, 1)}
    for _ in range(web.many):
        rows = _rows_on(needs, drawer, rows)
    # Whole rows that are not there are never drawn.
    chances = {order: rows.get(order, (0, 1)) for order in found}
    for order in found:
        if chances[order] != chances[found[0]]:
            return (found[0], order)
    return None


def _rows_on(needs, drawer, rows):
    """What comes of rows, ascending, by one draw, each with its chance above 0."""
    found = {}
    for row in rows:
        by_name = _tickets_behind(needs, drawer, row)
        total = sum([by_name[name] for name in by_name])
        top, bottom = rows[row]
        for name in sorted(by_name):
            longer = (*row, name)
            if by_name[name] > 0:
                found[longer] = fraction(top * by_name[name], bottom * total)
    return found
