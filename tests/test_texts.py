"""13.1, 13.2 and 13.3: texts written and read; 0.2 to 0.5 for them; example e13."""

import unittest
from itertools import product

from evenorders.books import is_book
from evenorders.errors import BadText, BadWeb, NoBook, NoOrder, NoTerm
from evenorders.reading import read_book, read_order, read_term, read_web
from evenorders.terms import is_term, term_of
from evenorders.texts import book_text, order_text, term_text, web_text
from evenorders.webs import Web
from tests.common import APART8, F, FEW_WEBS, GREATER_WEBS, LEVELS8, N, ONE, ROW8, T
from tests.common import Case, strange
from tests.parsers import Stop, whole_book, whole_term
from tests.test_books import BOOKS, deep_book
from tests.test_terms import TERMS

ONES = [("one", name) for name in range(8)]
NO_STRINGS = [thing for thing in strange() if not isinstance(thing, str)]


class TextsCase(Case):
    def assert_bad(self, function, line, text):
        self.assert_refused(BadText, {"line": line}, function, text)


class WebTextsTest(TextsCase):
    def test_web_text(self):
        self.assert_same(web_text(ONE), "names 1\n")
        self.assert_same(web_text(N), "names 4\nbefore 0 2\nbefore 1 2\nbefore 1 3\n")
        self.assert_same(web_text(Web(3, ((0, 1), (0, 2), (1, 2)))), "names 3\nbefore 0 1\nbefore 1 2\n")
        self.assert_same(web_text(APART8), "names 8\n")

    def test_there_and_back(self):
        for web in FEW_WEBS + GREATER_WEBS + [APART8, ROW8, LEVELS8]:
            self.assert_same(read_web(web_text(web)), web)

    def test_befores_that_follow(self):
        for befores in [((0, 1), (0, 2), (1, 2)), ((0, 1), (1, 2))]:
            text = "names 3\n" + "".join(f"before {one} {other}\n" for one, other in befores)
            self.assert_same(read_web(text), Web(3, ((0, 1), (0, 2), (1, 2))))

    def test_no_string(self):
        for thing in NO_STRINGS + [b"names 1\n", ["names 1\n"], None]:
            self.assert_bad(read_web, 0, thing)

    def test_the_first_bad_line(self):
        for first in ["", "name 3", "names", "names ", "names  3", " names 3", "names 3 ", "names 03",
                      "names +3",
                      "names -3", "names 3.", "names three", "Names 3", "names\t3", "names 3\t", "names 3 3",
                      "names 1234567890", "before 0 1", "names 00", "names 0000000003", "3", "names 3,"]:
            self.assert_bad(read_web, 1, first + "\n")
            self.assert_bad(read_web, 1, first + "\nbefore 0 1\n")
        for line in ["", "names 3", "before", "before 0", "before 0 ", "before 0  1", "before 0 1 ",
                     " before 0 1",
                     "before 0 1 2", "before 00 1", "before 0 01", "before -0 1", "before 0 1234567890",
                     "before 1234567890 1", "before 0\t1", "before a b", "Before 0 1", "before 0,1",
                     "before 0 +1"]:
            self.assert_bad(read_web, 2, "names 3\n" + line + "\n")
            self.assert_bad(read_web, 3, "names 3\nbefore 0 1\n" + line + "\nbefore 0 2\nnames\n")
            self.assert_bad(read_web, 3, "names 9\nbefore 0 0\n" + line + "\n")

    def test_befores_that_do_not_ascend(self):
        self.assert_bad(read_web, 3, "names 3\nbefore 0 1\nbefore 0 1\n")
        self.assert_bad(read_web, 3, "names 3\nbefore 1 0\nbefore 0 2\n")
        self.assert_bad(read_web, 4, "names 3\nbefore 0 1\nbefore 0 2\nbefore 0 1\nbefore 1\n")
        self.assert_refused(BadWeb, {"part": "befores"}, read_web, "names 3\nbefore 2 1\nbefore 10 1\n")
        self.assert_bad(read_web, 3, "names 3\nbefore 10 1\nbefore 2 1\n")

    def test_what_stands_behind_the_last_line_feed(self):
        self.assert_bad(read_web, 1, "")
        self.assert_bad(read_web, 1, "names 3")
        self.assert_bad(read_web, 1, "whatever")
        self.assert_bad(read_web, 2, "names 3\nbefore 0 1")
        self.assert_bad(read_web, 2, "names 3\n ")
        self.assert_bad(read_web, 2, "names 3\nnames 3")
        self.assert_bad(read_web, 4, "names 3\nbefore 0 1\nbefore 0 2\nx")
        # A line that is bad comes first.
        self.assert_bad(read_web, 2, "names 3\nbefore 0\nx")
        self.assert_bad(read_web, 1, "\n")
        self.assert_bad(read_web, 1, "\nnames 3")

    def test_then_bad_webs(self):
        for text, part in [("names 0\n", "many"), ("names 9\n", "many"), ("names 999999999\n", "many"),
                           ("names 9\nbefore 0 0\n", "many"), ("names 3\nbefore 0 0\n", "befores"),
                           ("names 3\nbefore 0 3\n", "befores"), ("names 3\nbefore 999999999 0\n", "befores"),
                           ("names 1\nbefore 0 1\n", "befores"), ("names 2\nbefore 0 1\nbefore 1 0\n", "ring"),
                           ("names 3\nbefore 0 1\nbefore 1 2\nbefore 2 0\n", "ring")]:
            self.assert_refused(BadWeb, {"part": part}, read_web, text)
        self.assert_bad(read_web, 2, "names 9\nbefore 0 1")


class OrderTextsTest(TextsCase):
    def test_there_and_back(self):
        self.assert_same(order_text(()), "")
        self.assert_same(order_text([]), "")
        self.assert_same(order_text((2, 0, 1)), "2 0 1")
        self.assert_same(order_text([7, 7, 0]), "7 7 0")
        self.assert_same(read_order(""), ())
        self.assert_same(read_order("5"), (5,))
        for size in range(4):
            for order in product((0, 3, 7), repeat=size):
                self.assert_same(read_order(order_text(order)), order)
                self.assert_same(order_text(list(order)), order_text(order))
        self.assert_same(read_order(order_text((1,) * 3000)), (1,) * 3000)

    def test_no_order(self):
        for thing in [None, True, 0, 3, "", "0 1", b"0", {}, {0: 1}, range(3), (8,), [8], (-1,), (0, 8),
                      (True,), [False],
                      (0, 1, True), ("0",), (None,), ((0,),), [[0]], (10 ** 59,), (0, ()), iter([0]),
                      Web(3, ()),
                      (name for name in (0,)), NoOrder()]:
            self.assert_refused(NoOrder, {}, order_text, thing)
        for thing in strange():
            if isinstance(thing, (list, tuple)) and all(is_name(item) for item in thing):
                self.assert_same(read_order(order_text(thing)), tuple(thing))
            else:
                self.assert_refused(NoOrder, {}, order_text, thing)
            if not is_name(thing):
                self.assert_refused(NoOrder, {}, order_text, [0, thing])

    def test_bad_texts(self):
        for text in [" ", "0 ", " 0", "0  1", "8", "0 8", "01", "0,1", "-1", "0\t1", "0\n", "\n", "a",
                     "0 1 x", "00",
                     "10", "+1", "0 1\t"]:
            self.assert_bad(read_order, 0, text)
        for thing in NO_STRINGS:
            self.assert_bad(read_order, 0, thing)


def is_name(thing):
    return type(thing) is int and 0 <= thing <= 7


def term_texts_of(term):
    """The text of a term, written out by what the document says."""
    if term[0] == "one":
        return str(term[1])
    inner = [term_texts_of(part) for part in term[1]]
    return "(" + " > ".join(inner) + ")" if term[0] == "behind" else "[" + " | ".join(inner) + "]"


def all_changes(row, parts):
    """All that comes of a row if one part is changed, left out, put in or the last one."""
    for at in range(len(row) + 1):
        yield row[:at]
        for part in parts:
            yield [*row[:at], part, *row[at:]]
            yield [*row[:at], part, *row[at + 1:]]
        yield [*row[:at], *row[at + 1:]]


class TermTextsTest(TextsCase):
    def test_e13(self):
        self.assert_same(term_text(term_of(T)), "[(0 > 2) | 1]")

    def test_there_and_back(self):
        self.assert_same(term_text(("one", 0)), "0")
        self.assert_same(term_text(term_of(F)), "(0 > [1 | 2])")
        self.assert_same(term_text(("behind", tuple(ONES))), "(0 > 1 > 2 > 3 > 4 > 5 > 6 > 7)")
        self.assert_same(term_text(("together", (("together", (ONES[2], ONES[0])), ONES[1]))), "[[2 | 0] | 1]")
        self.assert_same(read_term("((1 > 0) > 2)"), ("behind", (("behind", (ONES[1], ONES[0])), ONES[2])))
        for term in TERMS:
            self.assert_same(term_text(term), term_texts_of(term))
            self.assert_same(read_term(term_text(term)), term)

    def test_no_term_to_write(self):
        for thing in [*strange(), (), ("one", 1), ["one", 0], ("behind", (ONES[0],)), "0",
                      ("behind", (ONES[0], ONES[0])), ("behind", [ONES[0], ONES[1]])]:
            self.assert_refused(NoTerm, {}, term_text, thing)

    def test_cut_off(self):
        for term in TERMS[::17] + [("behind", tuple(ONES)), term_of(LEVELS8)]:
            text = term_text(term)
            for at in range(len(text)):
                self.assert_bad(read_term, at + 1, text[:at])
            for sign in " 0>|)](\t\n":
                self.assert_bad(read_term, len(text) + 1, text + sign)
                self.assert_bad(read_term, len(text) + 1, text + sign + text)

    def test_one_sign_changed(self):
        text = "[(0 > 2) | 1]"
        for sign in " 89ax>|)]{}-+.,\t\n":
            for at in range(len(text)):
                if sign not in " >|)]" and text[at] != sign:
                    self.assert_bad(read_term, at + 1, text[:at] + sign + text[at + 1:])
        for wrong, place in [("((0 > 2) | 1]", 10), ("[[0 > 2) | 1]", 5), ("[(0 | 2) | 1]", 5),
                             ("[(0 > 2] | 1]", 8),
                             ("[(0 > 2) > 1]", 10), ("[(0 > 2) | 1)", 13), ("[(0  > 2) | 1]", 5),
                             ("[(0 >  2) | 1]", 7), ("[(0> 2) | 1]", 4), ("[(0 >2) | 1]", 6),
                             ("[(0 > 2)| 1]", 9),
                             ("[(0 > 2) |1]", 11), ("[ (0 > 2) | 1]", 2), ("[(0 > 2) | 1 ]", 14),
                             ("[(0) | 1]", 4),
                             ("[(0 > 2)]", 9), ("[]", 2), ("()", 2), ("[0 | ]", 6), ("[(0 > 2) | 10]", 13),
                             (" 0", 1), ("0 ", 2), ("00", 2), ("01", 2), ("8", 1), ("-1", 1),
                             ("(0 > 2) | 1", 8),
                             ("one", 1), ("", 1), ("\n", 1), (")", 1), ("[0 | 1] ", 8), ("(0 > 1))", 8),
                             ("(0)", 3)]:
            self.assert_bad(read_term, place, wrong)

    def assert_read(self, text):
        """The text is read as by going down into its brackets."""
        try:
            term = whole_term(text)
        except Stop as stop:
            self.assert_bad(read_term, stop.place, text)
            return
        if is_term(term):
            self.assert_same(read_term(text), term)
        else:
            self.assert_refused(NoTerm, {}, read_term, text)

    def test_each_sign_at_each_place(self):
        for term in TERMS[::29] + [term_of(LEVELS8)]:
            for signs in all_changes(list(term_text(term)), "017 (>)[|]8"):
                self.assert_read("".join(signs))

    def test_all_short_texts(self):
        for size in range(5):
            for signs in product("01 (>)[|", repeat=size):
                self.assert_read("".join(signs))
        for signs in product("0 >|)]", repeat=4):
            self.assert_read("(0 > [1 | 2" + "".join(signs))

    def test_names_that_are_not_as_they_must_be(self):
        for text in ["1", "7", "(0 > 0)", "(1 > 2)", "[0 | 2]", "[(0 > 1) | 1]",
                     "(0 > 1 > 2 > 3 > 4 > 5 > 6 > 7 > 0)",
                     "[0 | 1 | 3]", "((0 > 1) > (0 > 1))"]:
            self.assert_refused(NoTerm, {}, read_term, text)
        self.assert_bad(read_term, 8, "(0 > 0))")
        self.assert_bad(read_term, 2, "1 ")

    def test_no_string(self):
        for thing in NO_STRINGS + [b"0", ["0"], 0, ("one", 0)]:
            self.assert_bad(read_term, 0, thing)

    def test_brackets_hundreds_deep(self):
        for deep in (40, 300, 900, 5000):
            for first, between, last in [("(", " > ", ")"), ("[", " | ", "]")]:
                self.assert_bad(read_term, deep + 1, first * deep)
                self.assert_bad(read_term, deep + 1, first * deep + last)
                self.assert_refused(NoTerm, {}, read_term, first * deep + "0" + (between + "1" + last) * deep)
                self.assert_refused(NoTerm, {}, read_term, (first + "0" + between) * deep + "1" + last * deep)
                text = first * deep + "0" + (between + "1" + last) * deep
                self.assert_bad(read_term, len(text) + 1, text + last)
                self.assert_bad(read_term, len(text), text[:-1])
        self.assert_refused(NoTerm, {}, read_term, "(" + " > ".join(["0"] * 3000) + ")")


def words_of(deeds):
    words = []
    for deed in deeds:
        if deed[0] == "if":
            words += ["if", str(deed[1]), "(", *words_of(deed[2]), ")", "(", *words_of(deed[3]), ")"]
        else:
            words += [deed[0]]
    return words


def deep_text(deep):
    return "if 1 ( " * (deep - 1) + "back" + " ) ( front )" * (deep - 1)


class BookTextsTest(TextsCase):
    def test_there_and_back(self):
        self.assert_same(book_text((("front",),)), "front")
        self.assert_same(book_text((("front",), ("if", 7, (("back",),), (("front",), ("back",))))),
                         "front if 7 ( back ) ( front back )")
        for book in BOOKS:
            self.assert_same(book_text(book), " ".join(words_of(book)))
            self.assert_same(read_book(book_text(book)), book)
        for name in range(8):
            self.assert_same(read_book(f"if {name} ( back ) ( front )"),
                             (("if", name, (("back",),), (("front",),)),))

    def test_no_book_to_write(self):
        for thing in [*strange(), (), ("front",), [("front",)], (("front",),) * 41, deep_book(7), "front",
                      (("if", 8, (("back",),), (("front",),)),)]:
            self.assert_refused(NoBook, {}, book_text, thing)

    def test_blanks(self):
        for text in [" ", "  ", " front", "front ", "front  back", "if 0 ( front ) ( back ) ",
                     "if 0 (  front ) ( back )",
                     "front\tback", "front\n", "\n", "\t", "front back\t", "front\nback", "x  x", " x",
                     "front \n back"]:
            self.assert_bad(read_book, 0, text)
        for thing in NO_STRINGS + [b"front", ["front"], (("front",),)]:
            self.assert_bad(read_book, 0, thing)

    def test_the_first_bad_word(self):
        for text, word in [("x", 1), ("Front", 1), ("front, back", 1), ("front x", 2), (")", 1), ("(", 1),
                           ("0", 1),
                           ("front )", 2), ("front (", 2), ("front 0", 2), ("if front", 2),
                           ("if 8 ( front ) ( back )", 2),
                           ("if -1 ( front ) ( back )", 2), ("if 00 ( front ) ( back )", 2),
                           ("if ( front )", 2),
                           ("if 0 front", 3), ("if 0 )", 3), ("if 0 ( )", 4), ("if 0 ( 1", 4), ("if 0 ( (", 4),
                           ("if 0 ( front back", None), ("if 0 ( front ) front", 6), ("if 0 ( front ) )", 6),
                           ("if 0 ( front ) if", 6), ("if 0 ( front ) ( )", 7),
                           ("if 0 ( front ) ( back ) )", 9),
                           ("if 0 ( front ) ( back ) (", 9), ("if 0 ( front ) ( back ) x", 9),
                           ("if 0 (front)", 3),
                           ("if 0 ( if 1 ( front ) ( back ) ( back )", 12), ("fron", 1), ("frontback", 1),
                           ("if0", 1)]:
            self.assert_bad(read_book, word if word is not None else len(text.split(" ")) + 1, text)

    def test_words_missing_at_the_end(self):
        self.assert_bad(read_book, 1, "")
        for book in BOOKS:
            words = words_of(book)
            if book[-1][0] == "if" and len(book) == 1:
                for at in range(len(words)):
                    self.assert_bad(read_book, at + 1, " ".join(words[:at]))
        self.assert_same(read_book("front back"), (("front",), ("back",)))

    def assert_read(self, words):
        try:
            book = whole_book(words)
        except Stop as stop:
            self.assert_bad(read_book, stop.place, " ".join(words))
            return
        if is_book(book):
            self.assert_same(read_book(" ".join(words)), book)
        else:
            self.assert_refused(NoBook, {}, read_book, " ".join(words))

    def test_each_word_at_each_place(self):
        for book in BOOKS:
            for words in all_changes(words_of(book), ["front", "if", "3", "(", ")", "8", "x"]):
                self.assert_read(list(words))

    def test_all_short_texts(self):
        for size in range(5):
            for words in product(["back", "if", "0", "(", ")"], repeat=size):
                self.assert_read(list(words))
                self.assert_read(["if", "0", "(", "front", *words])
                self.assert_read(["if", "7", "(", "front", ")", "(", "back", *words])

    def test_too_many_and_too_deep(self):
        forty = " ".join(["front"] * 40)
        self.assert_same(read_book(forty), (("front",),) * 40)
        self.assert_refused(NoBook, {}, read_book, forty + " front")
        self.assert_bad(read_book, 42, forty + " front x")
        self.assert_same(read_book(deep_text(6))[0][0], "if")
        self.assert_refused(NoBook, {}, read_book, deep_text(7))
        for deep in (40, 300, 900, 5000):
            self.assert_refused(NoBook, {}, read_book, deep_text(deep))
            self.assert_bad(read_book, len(deep_text(deep).split(" ")) + 1, deep_text(deep) + " )")
            self.assert_bad(read_book, 3 * deep + 1, ("if 1 ( " * deep)[:-1])
        self.assert_refused(NoBook, {}, read_book, "if 0 ( " + forty + " ) ( back )")


class LongTextsTest(TextsCase):
    def test_long_texts(self):
        for sign in "~ (>0x\n\t":
            text = sign * 5000
            self.assert_bad(read_web, 1, text)
            self.assert_bad(read_order, 0, text)
            self.assert_bad(read_term, {"(": 5001, "0": 2}.get(sign, 1), text)
            self.assert_bad(read_book, 0 if sign in " \n\t" else 1, text)


if __name__ == "__main__":
    unittest.main()
