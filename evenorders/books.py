"""Books of drawing, from the front and from the back by turns."""

from evenorders.basics import ahead_bits, behind_bits, comers, is_name
from evenorders.errors import NoBook, NoOrder
from evenorders.listing import check_number, webs
from evenorders.orders import is_order, orders
from evenorders.webs import MOST_NAMES

DRAWS = ("front", "back")
MOST_DEEDS = 40
MOST_DEEP = 6


def is_book(thing):
    return _are_deeds(thing, 1) and _number_of(thing) <= MOST_DEEDS


def _are_deeds(thing, deep):
    """Whether a thing is deeds, where they stand so deep, none of them too deep."""
    if deep > MOST_DEEP or not isinstance(thing, tuple) or not thing:
        return False
    return all([_is_deed(item, deep) for item in thing])


def _is_deed(thing, deep):
    if not isinstance(thing, tuple) or not thing or not isinstance(thing[0], str):
        return False
    if thing[0] != "if":
        return len(thing) == 1 and thing[0] in DRAWS
    if len(thing) != 4 or not is_name(MOST_NAMES, thing[1]):
        return False
    return _are_deeds(thing[2], deep + 1) and _are_deeds(thing[3], deep + 1)


def _number_of(deeds):
    """How many deeds there are, those within others, too."""
    within = [inner for deed in deeds if deed[0] == "if" for inner in deed[2:]]
    return len(deeds) + sum([_number_of(inner) for inner in within])


def check_book(thing):
    if not is_book(thing):
        raise NoBook()


def book_chance(web, book, order):
    """The chance with which a book draws an order."""
    check_book(book)
    if not is_order(web, order):
        raise NoOrder()
    return (1, _one_in(_needs_by(web), _steps_of(book), order))


def _needs_by(web):
    return {"front": ahead_bits(web), "back": behind_bits(web)}


def _steps_of(book):
    """The deeds of a book in one list.

    Each is (word, name, place, other): the place of the deed that is done next,
    the other one that of an if on a name that has not been drawn. The first
    deed of all stands last, so that its place is -1 from the beginning on.
    """
    steps = []
    _put(book, -1, steps)
    return steps


def _put(deeds, after, steps):
    """Put deeds behind the steps; the place of the first one, where the one at
    a place told is done after the last one."""
    place = after
    for deed in deeds[::-1]:
        if deed[0] == "if":
            first = _put(deed[2], place, steps)
            second = _put(deed[3], place, steps)
            steps.append(("if", deed[1], first, second))
        else:
            steps.append((deed[0], None, place, place))
        place = len(steps) - 1
    return place


def _draw_at(steps, place, gone):
    """How it is drawn from a place on, and the place that is next then."""
    word, name, first, second = steps[place]
    while word == "if":
        word, name, first, second = steps[first if (gone >> name) & 1 else second]
    return (word, first)


def _one_in(needs_by, steps, order):
    """The number of which the chance of an order is one part."""
    bottom = 1
    gone = 0
    place = -1
    left = order
    while left:
        word, place = _draw_at(steps, place, gone)
        bottom *= len(comers(needs_by[word], gone))
        gone |= 1 << (left[0] if word == "front" else left[-1])
        left = left[1:] if word == "front" else left[:-1]
    return bottom


def even_book(web, book):
    """Whether a book draws all orders alike likely."""
    check_book(book)
    needs_by = _needs_by(web)
    steps = _steps_of(book)
    # For each place, with who is gone, of what number each way there is one part.
    bottoms = {(-1, 0): 1}
    for _ in range(web.many):
        bottoms = _bottoms_behind(needs_by, steps, bottoms)
        if bottoms is None:
            return False
    return len({bottoms[key] for key in bottoms}) == 1


def _bottoms_behind(needs_by, steps, bottoms):
    """The same one draw later, None if two ways to one place are not alike likely.

    All that may follow there follows both of them.
    """
    found = {}
    for place, gone in bottoms:
        word, after = _draw_at(steps, place, gone)
        names = comers(needs_by[word], gone)
        bottom = bottoms[(place, gone)] * len(names)
        for name in names:
            if found.setdefault((after, gone | (1 << name)), bottom) != bottom:
                return None
    return found


def unlike_by(web, book):
    """The least order, and the least one that has another chance, None if there is none."""
    check_book(book)
    found = orders(web)
    needs_by = _needs_by(web)
    steps = _steps_of(book)
    bottom = _one_in(needs_by, steps, found[0])
    for order in found:
        if _one_in(needs_by, steps, order) != bottom:
            return (found[0], order)
    return None


def books_part(one, other, many):
    """The first web, with its least order, of which two books draw it with
    unlike chances, None if there is none."""
    check_book(one)
    check_book(other)
    check_number(many)
    steps = _steps_of(one)
    others = _steps_of(other)
    for web in _webs_up_to(many):
        order = _parting(web, steps, others)
        if order is not None:
            return (web, order)
    return None


def _webs_up_to(many):
    return [web for number in range(1, many + 1) for web in webs(number)]


def _parting(web, steps, others):
    """The least order of unlike chances by both steps, None if there is none."""
    needs_by = _needs_by(web)
    for order in orders(web):
        if _one_in(needs_by, steps, order) != _one_in(needs_by, others, order):
            return order
    return None


def always_even(book, many):
    """The first web for which a book is not even, None if there is none."""
    check_book(book)
    check_number(many)
    for web in _webs_up_to(many):
        if not even_book(web, book):
            return web
    return None
