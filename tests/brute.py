"""The ways of drawing, worked out step by step from what the document says of them."""

from fractions import Fraction
from itertools import permutations
from math import factorial

from tests.common import FEW_WEBS, GREATER_WEBS, brute_orders

WAYS = ("front", "back", "numbers")


def free(web, left, at_end):
    """Those of the names left ahead of whom (at the end: behind whom) none of these must come."""
    pairs = [pair[::-1] for pair in web.befores] if at_end else web.befores
    return [name for name in left
            if not any(one in left and other == name for one, other in pairs)]


def brute_front(web, order):
    found = Fraction(1)
    for at in range(web.many):
        found /= len(free(web, order[at:], False))
    return found


def brute_back(web, order):
    found = Fraction(1)
    for size in range(web.many, 0, -1):
        found /= len(free(web, order[:size], True))
    return found


def drawn_by_numbers(web, numbers):
    left = list(range(web.many))
    row = ()
    while left:
        name = min(free(web, left, False), key=lambda one: numbers[one])
        left.remove(name)
        row = (*row, name)
    return row


def brute_numbers(web):
    """For each order the number of ways to give numbers that draw it."""
    found = {order: 0 for order in brute_orders(web)}
    for numbers in permutations(range(web.many)):
        found[drawn_by_numbers(web, numbers)] += 1
    return found


def brute_chances(web, way):
    if way == "numbers":
        found = brute_numbers(web)
        return {order: Fraction(found[order], factorial(web.many)) for order in found}
    drawn = brute_front if way == "front" else brute_back
    return {order: drawn(web, order) for order in brute_orders(web)}


SOME_WEBS = FEW_WEBS + GREATER_WEBS
BRUTE = {(at, way): brute_chances(web, way) for at, web in enumerate(SOME_WEBS) for way in WAYS}


def pair_of(found):
    return (found.numerator, found.denominator)
