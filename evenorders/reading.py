"""Webs, orders, terms and books read from texts.

Brackets may stand hundreds deep, so that those that are open stand in a list.
"""

from evenorders.books import DRAWS, check_book
from evenorders.errors import BadText, NoTerm
from evenorders.webs import Web

MOST_FIGURES = 9
# For each bracket the word of its term, the mark between its terms, and what closes it.
BRACKETS = {"(": ("behind", ">", ")"), "[": ("together", "|", "]")}


def is_numeral(word):
    """Whether a word is a number without needless zeros, of few figures."""
    return word.isdigit() and len(word) <= MOST_FIGURES and (word == "0" or word[0] != "0")


def _is_figure(word):
    """Whether a word is a name from 0 to 7."""
    return len(word) == 1 and "0" <= word <= "7"


def read_web(text):
    if not isinstance(text, str):
        raise BadText(0)
    lines = text.split("\n")
    rows = []
    for at, line in enumerate(lines[:-1]):
        words = line.split(" ")
        if not _may_follow(rows, words):
            raise BadText(at + 1)
        rows.append(tuple([int(word) for word in words[1:]]))
    if lines[-1] or not rows:
        raise BadText(len(lines))
    return Web(rows[0][0], tuple(rows[1:]))


def _may_follow(rows, words):
    """Whether words are a line that may stand behind those of which the rows have the numbers."""
    if not all([is_numeral(word) for word in words[1:]]):
        return False
    if not rows:
        return words[0] == "names" and len(words) == 2
    if words[0] != "before" or len(words) != 3:
        return False
    return len(rows) == 1 or rows[-1] < (int(words[1]), int(words[2]))


def read_order(text):
    if not isinstance(text, str):
        raise BadText(0)
    words = text.split(" ") if text else []
    if not all([_is_figure(word) for word in words]):
        raise BadText(0)
    return tuple([int(word) for word in words])


def read_term(text):
    if not isinstance(text, str):
        raise BadText(0)
    # For each open bracket the terms in it so far, ahead of these the whole one by itself.
    opened = [("", [])]
    due = "term"
    for at, sign in enumerate(text):
        due = _due_behind(opened, due, sign)
        if due is None:
            raise BadText(at + 1)
    if due != "end" or len(opened) > 1:
        raise BadText(len(text) + 1)
    names = [int(sign) for sign in text if _is_figure(sign)]
    if sorted(names) != list(range(len(names))):
        raise NoTerm()
    return opened[0][1][0]


def _due_behind(opened, due, sign):
    """What must come behind a sign, None if it cannot stand where this was due.

    That is a "term", what may stand at the "end" of one, or just one sign.
    """
    if due == "term":
        return _due_behind_begin(opened, sign)
    if due == "end":
        return _due_behind_end(opened, sign)
    if sign != due:
        return None
    return "term" if due == " " else " "


def _due_behind_begin(opened, sign):
    if sign in BRACKETS:
        opened.append((sign, []))
        return "term"
    if not _is_figure(sign):
        return None
    opened[-1][1].append(("one", int(sign)))
    return "end"


def _due_behind_end(opened, sign):
    bracket, terms = opened[-1]
    if bracket == "":
        return None
    word, mark, closing = BRACKETS[bracket]
    if sign == " ":
        return mark
    if sign != closing or len(terms) < 2:
        return None
    opened.pop()
    opened[-1][1].append((word, tuple(terms)))
    return "end"


def read_book(text):
    if not isinstance(text, str):
        raise BadText(0)
    words = text.split(" ") if text else []
    if "" in words or "\t" in text or "\n" in text:
        raise BadText(0)
    # The deeds so far of each open bracket, ahead of these those of the book, and
    # for each if that is not at its end its name and its deeds so far.
    rows = [[]]
    ifs = []
    due = "deed"
    for at, word in enumerate(words):
        due = _due_behind_word(rows, ifs, due, word)
        if due is None:
            raise BadText(at + 1)
    if due != "deed" or len(rows) > 1 or not rows[0]:
        raise BadText(len(words) + 1)
    book = tuple(rows[0])
    check_book(book)
    return book


def _due_behind_word(rows, ifs, due, word):
    """What must come behind a word, None if it cannot stand where this was due.

    That is a "deed", or a closing bracket behind one; a "name"; or just a bracket.
    """
    if due == "name":
        ifs.append([word])
        return "(" if _is_figure(word) else None
    if due == "(":
        rows.append([])
        return "deed" if word == "(" else None
    if word == "if":
        return "name"
    if word == ")":
        return _due_behind_closing(rows, ifs)
    rows[-1].append((word,))
    return "deed" if word in DRAWS else None


def _due_behind_closing(rows, ifs):
    if len(rows) == 1 or not rows[-1]:
        return None
    ifs[-1].append(tuple(rows.pop()))
    if len(ifs[-1]) < 3:
        return "("
    name, first, second = ifs.pop()
    rows[-1].append(("if", int(name), first, second))
    return "deed"
