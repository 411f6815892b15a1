"""Terms, which tell a web by parts behind one another and together."""

from evenorders.basics import is_name, pieces_of
from evenorders.errors import NoTerm
from evenorders.orders import count
from evenorders.webs import MOST_NAMES, Web, ahead_of, open_pairs

WORDS = ("behind", "together")


def web_of(term):
    """The web that a term tells."""
    if not is_term(term):
        raise NoTerm()
    return Web(len(_names_of(term)), tuple(sorted(_befores_of(term))))


def is_term(thing):
    if not _has_form(thing):
        return False
    names = _names_of(thing)
    return sorted(names) == list(range(len(names)))


def _has_form(thing):
    """Whether a thing is made as a term is, whatever names are in it."""
    if not isinstance(thing, tuple) or len(thing) != 2 or not isinstance(thing[0], str):
        return False
    if thing[0] == "one":
        return is_name(MOST_NAMES, thing[1])
    if thing[0] not in WORDS or not isinstance(thing[1], tuple) or len(thing[1]) < 2:
        return False
    return all([_has_form(inner) for inner in thing[1]])


def _names_of(term):
    """All names in a term, in the order in which it tells them."""
    if term[0] == "one":
        return [term[1]]
    return [name for inner in term[1] for name in _names_of(inner)]


def _befores_of(term):
    """All befores that a term tells, in any order."""
    if term[0] == "one":
        return []
    found = [before for inner in term[1] for before in _befores_of(inner)]
    if term[0] == "behind":
        lots = [_names_of(inner) for inner in term[1]]
        for at, lot in enumerate(lots):
            found.extend([(one, other) for one in lot for later in lots[at + 1:] for other in later])
    return found


def term_of(web):
    """The term that tells a web, each of its parts as great as it can be; None if there is none."""
    return _term_of_lot(web, tuple(range(web.many)))


def _term_of_lot(web, lot):
    if len(lot) == 1:
        return ("one", lot[0])
    together = pieces_of(lot, web.befores)
    if len(together) > 1:
        return _term_of_parts(web, "together", together)
    behind = pieces_of(lot, open_pairs(web))
    if len(behind) > 1:
        # All names of one of these parts are ahead of all of another one.
        behind = sorted(behind, key=lambda piece: len(ahead_of(web, piece[0])))
        return _term_of_parts(web, "behind", behind)
    return None


def _term_of_parts(web, word, lots):
    terms = [_term_of_lot(web, lot) for lot in lots]
    return None if None in terms else (word, tuple(terms))


def term_count(term):
    """The number of orders of the web that a term tells."""
    return count(web_of(term))
