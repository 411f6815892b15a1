"""14.1 and 14.2: the desk; 0.2 to 0.5 for it."""

import unittest

from evenorders.asks import fewest_asks
from evenorders.callings import calling
from evenorders.desk import Desk
from evenorders.errors import BadText, BadWeb, NoBefore, NoKept, NoLine, NoName, NoNumber, NoOrder
from evenorders.errors import NothingDone, TooMany
from evenorders.levels import levels
from evenorders.listing import sorts
from evenorders.orders import count, orders
from evenorders.terms import term_of
from evenorders.texts import term_text, web_text
from evenorders.tickets import tickets
from evenorders.ways import WAYS, chance, even
from tests.common import ALMOST_LEVELS8, APART8, F, FEW_WEBS, GREATER_WEBS, LEVELS8, N, ONE, ROW8, T
from tests.common import Case, strange

WITH_NAME = ["show", "count", "levels", "calling", "term", "tickets", "asks", "sorts"]


def line_of(web):
    return web_text(web).replace("\n", "|")


def desk_with(**webs):
    desk = Desk()
    for name, web in webs.items():
        desk.tell(f"web {name} {line_of(web)}")
    return desk


def with_commas(numbers):
    return ",".join(str(number) for number in numbers)


class DeskCase(Case):
    def setUp(self):
        self.desk = desk_with(t=T, n=N, f=F, abcdefgh=ONE, row=ROW8)

    def all_told(self, desk):
        names = desk.tell("names")
        shown = [desk.tell("show " + name) for name in names.split(" ")] if names != "none" else []
        return (names, shown, desk.undoable())

    def refuse(self, error, fields, line):
        before = self.all_told(self.desk)
        self.assert_refused(error, fields, self.desk.tell, line)
        self.assertEqual(self.all_told(self.desk), before)

    def tell(self, line, told):
        self.assert_same(self.desk.tell(line), told)


class KeepingTest(DeskCase):
    def test_web_and_names(self):
        desk = Desk()
        self.assert_same(desk.tell("names"), "none")
        self.assert_same(desk.undoable(), 0)
        self.assert_same(desk.tell("web b names 3|before 0 2|"), "ok")
        self.assert_same(desk.tell("web zz names 1|"), "ok")
        self.assert_same(desk.tell("web a names 8|"), "ok")
        self.assert_same(desk.tell("names"), "a b zz")
        self.assert_same(desk.undoable(), 3)
        self.assert_same(desk.tell("show b"), "names 3|before 0 2|")

    def test_befores_that_follow_are_not_shown(self):
        self.tell("web x names 3|before 0 1|before 0 2|before 1 2|", "ok")
        self.tell("show x", "names 3|before 0 1|before 1 2|")

    def test_in_the_place_of_an_elder_one(self):
        self.tell("web t names 2|", "ok")
        self.tell("show t", "names 2|")
        self.tell("names", "abcdefgh f n row t")
        self.assert_same(self.desk.undoable(), 6)
        self.tell("undo", "ok")
        self.tell("show t", "names 3|before 0 2|")
        self.tell("undo", "ok")
        self.refuse(NoKept, {"name": "row"}, "show row")
        self.tell("show t", "names 3|before 0 2|")

    def test_before(self):
        self.tell("before t 0 1", "ok")
        self.tell("show t", "names 3|before 0 1|before 0 2|")
        self.tell("before t 2 1", "ok")
        self.tell("show t", "names 3|before 0 2|before 2 1|")
        self.tell("before t 0 1", "ok")
        self.tell("show t", "names 3|before 0 2|before 2 1|")
        self.assert_same(self.desk.undoable(), 8)
        self.tell("undo", "ok")
        self.tell("undo", "ok")
        self.tell("show t", "names 3|before 0 1|before 0 2|")
        self.tell("undo", "ok")
        self.tell("show t", "names 3|before 0 2|")

    def test_drop_and_undo(self):
        self.tell("drop t", "ok")
        self.tell("names", "abcdefgh f n row")
        self.refuse(NoKept, {"name": "t"}, "show t")
        self.refuse(NoKept, {"name": "t"}, "drop t")
        self.tell("undo", "ok")
        self.tell("show t", "names 3|before 0 2|")
        self.tell("drop t", "ok")
        self.tell("web t names 1|", "ok")
        self.tell("undo", "ok")
        self.refuse(NoKept, {"name": "t"}, "count t")
        self.tell("undo", "ok")
        self.tell("count t", "3")

    def test_undo_of_undo(self):
        self.tell("drop f", "ok")
        self.tell("before t 1 2", "ok")
        self.tell("undo", "ok")
        self.tell("undo", "ok")
        self.tell("names", "abcdefgh f n row t")
        for _ in range(5):
            self.tell("undo", "ok")
        self.tell("names", "none")
        self.assert_same(self.desk.undoable(), 0)
        self.refuse(NothingDone, {}, "undo")
        self.tell("web a names 1|", "ok")
        self.assert_same(self.desk.undoable(), 1)
        self.tell("undo", "ok")
        self.refuse(NothingDone, {}, "undo")

    def test_what_only_tells_cannot_be_taken_back(self):
        before = self.all_told(self.desk)
        for line in ["names", "order t 1", "chance t front 0,1,2", "even t back",
                     *[f"{word} t" for word in WITH_NAME]]:
            self.desk.tell(line)
        self.assertEqual(self.all_told(self.desk), before)

    def test_desks_are_apart(self):
        other = Desk()
        self.assert_same(other.tell("names"), "none")
        other.tell("web t names 1|")
        self.tell("show t", "names 3|before 0 2|")
        self.assert_flag(other == self.desk, False)


class TellingTest(DeskCase):
    def test_by_hand(self):
        self.tell("show t", "names 3|before 0 2|")
        self.tell("count n", "5")
        self.tell("order t 1", "0,2,1")
        self.tell("chance t front 1,0,2", "1/2")
        self.tell("even t front", "no")
        self.tell("even f front", "yes")
        self.tell("levels f", "0 1,2")
        self.tell("levels t", "none")
        self.tell("calling t", "0,2,1")
        self.tell("calling n", "none")
        self.tell("term t", "[(0 > 2) | 1]")
        self.tell("term n", "none")
        self.tell("tickets n", "2,3,1,1")
        self.tell("asks t", "2")
        self.tell("sorts t", "all,callings,terms,tickets,forests,no saving")
        self.tell("show abcdefgh", "names 1|")
        self.tell("order abcdefgh 0", "0")
        self.tell("chance abcdefgh back 0", "1/1")
        self.tell("levels abcdefgh", "0")
        self.desk.tell("web almost " + line_of(ALMOST_LEVELS8))
        self.tell("tickets almost", "none")

    def test_as_the_functions_tell(self):
        for web in FEW_WEBS[::9] + GREATER_WEBS + [LEVELS8, ROW8, APART8]:
            desk = desk_with(w=web)
            self.assert_same(desk.tell("show w"), line_of(web))
            self.assert_same(desk.tell("count w"), str(count(web)))
            self.assert_same(desk.tell("levels w"), " ".join(with_commas(level) for level in levels(web))
                             if levels(web) else "none")
            for word, found in [("calling", calling(web)), ("tickets", tickets(web))]:
                self.assert_same(desk.tell(word + " w"), with_commas(found) if found else "none")
            self.assert_same(desk.tell("term w"), term_text(term_of(web)) if term_of(web) else "none")
            self.assert_same(desk.tell("sorts w"), ",".join(sorts(web)))
            if web.many < 6:
                self.assert_same(desk.tell("asks w"), str(fewest_asks(web)))
            if web.many < 8:
                for number, order in list(enumerate(orders(web)))[::5]:
                    self.assert_same(desk.tell(f"order w {number}"), with_commas(order))
                    for way in WAYS:
                        top, bottom = chance(web, way, order)
                        self.assert_same(desk.tell(f"chance w {way} {with_commas(order)}"), f"{top}/{bottom}")
            for way in WAYS:
                self.assert_same(desk.tell(f"even w {way}"), "yes" if even(web, way) else "no")


class WrongLinesTest(DeskCase):
    def test_no_string(self):
        for thing in [thing for thing in strange() if not isinstance(thing, str)] + [b"names", ["names"]]:
            self.assert_refused(NoLine, {}, self.desk.tell, thing)

    def test_none_of_the_forms(self):
        for line in ["", " ", "name", "nam", "Names", "names ", " names", "names t", "names\t", "undo ",
                     "undo t", "undo 1",
                     "xyz t", "web", "web ", "web t", "web t ", "web  t names 1|", "webs t names 1|",
                     "drop", "drop ",
                     "drop t ", "drop  t", "drop t t", "before t", "before t 0", "before t 0 ", "before t 0 1 ",
                     "before t 0  1", "before t 0 1 2", "before t 0,1", "before 0 1 t", "order t", "order t ",
                     "order t 1 2", "order 1 t", "chance t", "chance t front", "chance t front ",
                     "chance t 0,1,2",
                     "chance t front 0,1,2 ", "chance t front 0 1 2", "chance front t 0,1,2", "even t",
                     "even t ",
                     "even t side", "even t Front", "even front t", "even t front ", "even t front back",
                     "even t fron",
                     "chance t all 0,1,2", "chance t front 0,,2", "chance t front ,0,1", "chance t front 0,1,",
                     "chance t front 0, 1", "chance t front ,", "chance t front 00,1,2",
                     "chance t front 0,1,02",
                     "chance t front 0,1,-2", "chance t front 0;1;2", "chance t front 0,1,1234567890",
                     "chance t front a,b,c", "chance t front (0,1,2)", "show t\t", "tickets t 1", "sorts",
                     "asks 3", "t"]:
            self.refuse(NoLine, {}, line)
        for word in WITH_NAME + ["drop"]:
            for line in [word, word + " ", word + "  t", word + " t ", word + " t t", " " + word + " t",
                         word + "t",
                         word + " T", word + " t1", word + " abcdefghi", word + "\tt", word.upper() + " t",
                         word + " t\n",
                         word + " \n", word + " t|", word + "s t" if word != "term" else "terms t",
                         word[:-1] + " t"]:
                self.refuse(NoLine, {}, line)

    def test_names_of_one_to_eight_letters(self):
        for name in ["a", "z", "zz", "abcdefgh", "names", "undo", "web", "none"]:
            self.tell(f"web {name} names 2|", "ok")
            self.tell(f"count {name}", "2")
        for name in ["", "abcdefghi", "A", "aB", "a1", "1", "a_b", "a-b", "a.b", "`", "{", "a{", "a\tb", "~"]:
            self.refuse(NoLine, {}, f"web {name} names 2|")
            for line in [f"before {name} 0 1", f"order {name} 0", f"chance {name} front 0,1",
                         f"even {name} front"]:
                self.refuse(NoLine, {}, line)

    def test_numbers(self):
        for number in ["00", "01", "-1", "+1", "1.", "1234567890", "0000000000", "x", "1x", "", "0x1",
                       "1_0", "1e3", "\t1"]:
            self.refuse(NoLine, {}, f"order t {number}")
            self.refuse(NoLine, {}, f"before t {number} 1")
            self.refuse(NoLine, {}, f"before t 1 {number}")
        self.refuse(NoNumber, {}, "order t 3")
        self.refuse(NoNumber, {}, "order t 999999999")
        self.tell("order t 0", "0,1,2")

    def test_line_feeds(self):
        for line in ["names\n", "\n", "web x names 1\n", "web x names 1|\n", "count t\n", "\nnames", "show\nt"]:
            self.refuse(NoLine, {}, line)

    def test_bad_texts(self):
        for text, line in [("names 3", 1), ("|", 1), (" names 3|", 1), ("  ", 1), ("x", 1), ("names 03|", 1),
                           ("names 3|before 0 2", 2), ("names 3|before 0 2| ", 3), ("names 3|before 0  2|", 2),
                           ("names 3||", 2), ("names 3|before 0 2|before 0 1|", 3), ("names 3\t|", 1),
                           ("names 3 |", 1),
                           ("names 3|names 3|", 2), ("names 3|x|y|", 2)]:
            self.refuse(BadText, {"line": line}, "web x " + text)
            self.refuse(BadText, {"line": line}, "web t " + text)

    def test_bad_webs(self):
        for text, part in [("names 0|", "many"), ("names 9|", "many"), ("names 3|before 0 3|", "befores"),
                           ("names 3|before 1 1|", "befores"), ("names 2|before 0 1|before 1 0|", "ring")]:
            self.refuse(BadWeb, {"part": part}, "web x " + text)
            self.refuse(BadWeb, {"part": part}, "web t " + text)

    def test_nothing_kept(self):
        for line in ["before x 9 9", "drop x", "order x 999999999", "chance x back 7,7,7", "even x numbers",
                     *[f"{word} x" for word in WITH_NAME]]:
            self.refuse(NoKept, {"name": "x"}, line)

    def test_then_what_the_functions_raise(self):
        self.refuse(NoName, {}, "before t 0 3")
        self.refuse(NoName, {}, "before t 999999999 0")
        self.refuse(NoBefore, {}, "before t 2 0")
        self.refuse(NoBefore, {}, "before t 1 1")
        self.refuse(NoOrder, {}, "chance t front 2,1,0")
        self.refuse(NoOrder, {}, "chance t front 0,1")
        self.refuse(NoOrder, {}, "chance t front 0,1,2,3")
        self.refuse(NoOrder, {}, "chance t front 0,0,999999999")
        self.refuse(TooMany, {"most": 5}, "asks row")
        self.refuse(NoNumber, {}, "order row 1")


class KindsTest(DeskCase):
    def test_equal_to_nothing_else(self):
        for thing in [*strange(), T]:
            self.assert_flag(self.desk == thing, False)
            self.assert_flag(thing == self.desk, False)

    def test_texts_with_more_than_one_blank_in_a_row(self):
        self.refuse(BadText, {"line": 2}, "web x names 3|before 0  1|")
        self.tell("web x names 3|before 0 1|before 1 2|", "ok")
        self.tell("count x", "1")


if __name__ == "__main__":
    unittest.main()
