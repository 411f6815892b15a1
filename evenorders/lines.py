"""Lines of names one ahead of the next, and names apart."""

from itertools import combinations

from evenorders.basics import is_name
from evenorders.webs import behind_of, open_pairs


def longest(web):
    """The least of the longest lines."""
    best = {}
    # Who has fewer behind comes first here, so that the lines that go on are known.
    for name in sorted(range(web.many), key=lambda one: len(behind_of(web, one))):
        found = [(name, *best[other]) for other in behind_of(web, name)]
        best[name] = _least_longest([(name,), *found])
    return _least_longest(list(best.values()))


def _least_longest(rows):
    return min(rows, key=lambda row: (-len(row), row))


def widest(web):
    """The least of the greatest lots of which any two names are apart."""
    apart = open_pairs(web)
    for size in range(web.many, 1, -1):
        for lot in combinations(range(web.many), size):
            if all([(one, other) in apart for one in lot for other in lot if one < other]):
                return lot
    return (0,)


def lines(web):
    """Lines, as few as can be, such that each name is in one."""
    ahead = {}
    for name in range(web.many):
        _find_next(web, name, ahead, [])
    follower = {ahead[name]: name for name in ahead}
    return [_line_from(name, follower) for name in range(web.many) if name not in ahead]


def _find_next(web, name, ahead, tried):
    """Let somebody follow a name in its line, others changing theirs if they must.

    Each name that finds one so makes the lines one fewer; where none can be
    found without loss, they are as few as can be.
    """
    for other in behind_of(web, name):
        if other not in tried:
            tried.append(other)
            if other not in ahead or _find_next(web, ahead[other], ahead, tried):
                ahead[other] = name
                return True
    return False


def _line_from(name, follower):
    line = [name]
    while line[-1] in follower:
        line.append(follower[line[-1]])
    return tuple(line)


def is_lines(web, thing):
    if not isinstance(thing, list) or not all([_is_line(web, item) for item in thing]):
        return False
    return sorted([name for line in thing for name in line]) == list(range(web.many))


def _is_line(web, thing):
    if not isinstance(thing, tuple) or not thing:
        return False
    if not all([is_name(web.many, name) for name in thing]):
        return False
    return all([pair in web.befores for pair in zip(thing, thing[1:])])
