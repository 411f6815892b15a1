"""The fewest befores to put in and to take out until a web has levels."""

from evenorders.errors import NoWord, TooMany

WORDS = ("in", "out")
MOST_NAMES_HERE = 5


def to_levels(web):
    """The least number of changes to levels, and the least changes."""
    _check_many(web)
    return _least([_changes(web, heights) for heights in _all_heights(web.many)])


def to_levels_by(web, word):
    """The same if all changes must begin with a word."""
    if not isinstance(word, str) or word not in WORDS:
        raise NoWord()
    _check_many(web)
    found = [_changes(web, heights) for heights in _all_heights(web.many)]
    return _least([changes for changes in found if all([change[0] == word for change in changes])])


def _check_many(web):
    if web.many > MOST_NAMES_HERE:
        raise TooMany(MOST_NAMES_HERE)


def _all_heights(many):
    """All ways to put names on heights: those on one height are to be a level."""
    rows = [()]
    for _ in range(many):
        rows = [(*row, height) for row in rows for height in range(many)]
    return rows


def _changes(web, heights):
    """What to change such that just those on lesser heights are ahead."""
    names = range(web.many)
    found = []
    for one in names:
        for other in names:
            is_ahead = (one, other) in web.befores
            if is_ahead != (heights[one] < heights[other]):
                found.append(("out" if is_ahead else "in", one, other))
    return tuple(sorted(found))


def _least(found):
    return min([(len(changes), changes) for changes in found])
