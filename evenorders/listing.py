"""All webs of few names, and the sorts of webs."""

from itertools import combinations, permutations

from evenorders.asks import no_saving
from evenorders.basics import is_integer
from evenorders.callings import count_callings
from evenorders.errors import NoNumber, NoSort
from evenorders.levels import levels
from evenorders.terms import term_of
from evenorders.tickets import is_forest, tickets
from evenorders.webs import Web

MOST_NAMES_HERE = 4
SORTS = ("all", "levels", "callings", "terms", "tickets", "forests", "no saving")


def check_number(thing):
    """A number of names of which all webs are gone through."""
    if not is_integer(thing) or not 1 <= thing <= MOST_NAMES_HERE:
        raise NoNumber()


def webs(many):
    """All webs of so many names, ascending by their befores."""
    check_number(many)
    found = [()]
    for one, other in combinations(range(many), 2):
        found = [(*pairs, *more) for pairs in found for more in ((), ((one, other),), ((other, one),))]
    found = sorted([tuple(sorted(pairs)) for pairs in found])
    return [Web(many, pairs) for pairs in found if _has_all_following(pairs)]


def _has_all_following(pairs):
    return all([(one, later) in pairs for one, other in pairs for name, later in pairs if name == other])


def kinds(many):
    """Those of the webs of which no renaming has lesser befores."""
    return [web for web in webs(many) if not _has_lesser_renaming(web)]


def _has_lesser_renaming(web):
    for names in permutations(range(web.many)):
        if tuple(sorted([(names[one], names[other]) for one, other in web.befores])) < web.befores:
            return True
    return False


def count_webs(many, sort):
    """The number of kinds that are of a sort."""
    check_number(many)
    if not isinstance(sort, str) or sort not in SORTS:
        raise NoSort()
    return len([web for web in kinds(many) if sort in sorts(web)])


def sorts(web):
    """The words of all sorts that fit a web."""
    fits = (
        True, levels(web) is not None, count_callings(web) > 0, term_of(web) is not None,
        tickets(web) is not None, is_forest(web), no_saving(web),
    )
    return tuple([word for word, fit in zip(SORTS, fits) if fit])
