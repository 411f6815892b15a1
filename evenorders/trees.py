"""Trees that tell what is asked first, and then by each answer."""

from evenorders.asks import check_few, known_of, same_prices, sums_by_first
from evenorders.basics import answered, is_name, is_open, open_by, order_by
from evenorders.errors import NoOrder, NoTree
from evenorders.webs import MOST_NAMES


def ask_tree(web):
    """A tree of the least depth."""
    check_few(web)
    return _tree(known_of(web), same_prices(web), {})


def _tree(known, prices, kept):
    sums = sums_by_first(known, prices, kept)
    if not sums:
        return ("order", order_by(known))
    one, other = min(list(sums), key=lambda pair: sums[pair])
    first = _tree(answered(known, one, other), prices, kept)
    second = _tree(answered(known, other, one), prices, kept)
    return (one, other, first, second)


def is_tree(web, thing):
    return _is_tree_for(known_of(web), thing)


def _is_tree_for(known, thing):
    """Whether a thing is a tree for the web of what is known."""
    if _is_end(thing):
        return not open_by(known) and thing[1] == order_by(known)
    if not _is_fork(len(known), thing):
        return False
    one, other, first, second = thing
    if not is_open(known, one, other):
        return False
    if not _is_tree_for(answered(known, one, other), first):
        return False
    return _is_tree_for(answered(known, other, one), second)


def _is_end(thing):
    """Whether a thing has the form of a tree without asks."""
    if not isinstance(thing, tuple) or len(thing) != 2 or not isinstance(thing[0], str):
        return False
    return thing[0] == "order" and _are_unlike_names(thing[1])


def _are_unlike_names(thing):
    if not isinstance(thing, tuple) or not all([is_name(MOST_NAMES, item) for item in thing]):
        return False
    return len(set(thing)) == len(thing)


def _is_fork(many, thing):
    """Whether a thing is two unlike names and two more things."""
    if not isinstance(thing, tuple) or len(thing) != 4:
        return False
    return is_name(many, thing[0]) and is_name(many, thing[1]) and thing[0] != thing[1]


def asked(tree, order):
    """The asks of a tree on the way to an order."""
    if not _has_form(tree):
        raise NoTree()
    if not _are_unlike_names(order):
        raise NoOrder()
    asks = []
    here = tree
    while not _is_end(here):
        one, other, first, second = here
        if one not in order or other not in order:
            raise NoOrder()
        asks.append((one, other))
        here = first if order.index(one) < order.index(other) else second
    if here[1] != order:
        raise NoOrder()
    return asks


def _has_form(thing):
    """Whether a thing is made as a tree is, for whatever web."""
    if _is_end(thing):
        return True
    return _is_fork(MOST_NAMES, thing) and _has_form(thing[2]) and _has_form(thing[3])
