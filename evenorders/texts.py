"""Webs, orders, terms and books written as texts."""

from evenorders.basics import is_name
from evenorders.books import check_book
from evenorders.errors import NoOrder, NoTerm
from evenorders.terms import is_term
from evenorders.webs import MOST_NAMES, straight

# For each word of a term what stands ahead of its terms, between two, and behind them.
SIGNS = {"behind": ("(", " > ", ")"), "together": ("[", " | ", "]")}


def web_text(web):
    befores = [f"before {one} {other}\n" for one, other in straight(web)]
    return "".join([f"names {web.many}\n", *befores])


def order_text(order):
    if not isinstance(order, (list, tuple)) or not all([is_name(MOST_NAMES, name) for name in order]):
        raise NoOrder()
    return " ".join([str(name) for name in order])


def term_text(term):
    if not is_term(term):
        raise NoTerm()
    return _text_of_term(term)


def _text_of_term(term):
    if term[0] == "one":
        return str(term[1])
    first, between, last = SIGNS[term[0]]
    return first + between.join([_text_of_term(inner) for inner in term[1]]) + last


def book_text(book):
    check_book(book)
    return " ".join(_words_of(book))


def _words_of(deeds):
    words = []
    for deed in deeds:
        words.append(deed[0])
        if deed[0] == "if":
            words.extend([str(deed[1]), "(", *_words_of(deed[2]), ")", "(", *_words_of(deed[3]), ")"])
    return words
