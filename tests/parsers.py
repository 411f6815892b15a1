"""Texts of terms and of books read by going down into their brackets, one form after another."""


class Stop(Exception):
    def __init__(self, place):
        self.place = place


def expect(row, at, part):
    if at >= len(row) or row[at] != part:
        raise Stop(at + 1)
    return at + 1


def term_at(text, at):
    """The term that begins at a place, and the place behind it."""
    if at >= len(text) or text[at] not in "01234567([":
        raise Stop(at + 1)
    if text[at] not in "([":
        return ("one", int(text[at])), at + 1
    word, mark, last = ("behind", ">", ")") if text[at] == "(" else ("together", "|", "]")
    term, at = term_at(text, at + 1)
    terms = [term]
    while len(terms) < 2 or at >= len(text) or text[at] != last:
        for sign in (" ", mark, " "):
            at = expect(text, at, sign)
        term, at = term_at(text, at)
        terms.append(term)
    return (word, tuple(terms)), at + 1


def whole_term(text):
    term, at = term_at(text, 0)
    if at < len(text):
        raise Stop(at + 1)
    return term


def deeds_at(words, at, closing):
    """The deeds that begin at a word, one or more, and the place of what ends them."""
    deeds = []
    while not deeds or at < len(words) and words[at] != closing:
        deed, at = deed_at(words, at)
        deeds.append(deed)
    return tuple(deeds), at


def deed_at(words, at):
    if at >= len(words) or words[at] not in ("front", "back", "if"):
        raise Stop(at + 1)
    if words[at] != "if":
        return (words[at],), at + 1
    if at + 1 >= len(words) or words[at + 1] not in list("01234567"):
        raise Stop(at + 2)
    at, name, parts = at + 2, int(words[at + 1]), []
    for _ in range(2):
        part, at = deeds_at(words, expect(words, at, "("), ")")
        at = expect(words, at, ")")
        parts.append(part)
    return ("if", name, *parts), at


def whole_book(words):
    return deeds_at(words, 0, None)[0]
