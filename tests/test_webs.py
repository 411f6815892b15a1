"""1.1 and 1.2: webs; 0.2, 0.3, 0.4 for them; example e01."""

import unittest

from evenorders.errors import BadWeb, NoLot, NoName
from evenorders.webs import Web, ahead_of, behind_of, closed_lots, may_come, open_pairs, straight
from tests.common import APART8, FEW_WEBS, GREATER_WEBS, N, ONE, ROW8, T, F
from tests.common import Case, all_webs, brute_lots, strange


class MakingWebsTest(Case):
    def test_e01(self):
        self.assert_same(Web(3, ((0, 1), (1, 2))).befores, ((0, 1), (0, 2), (1, 2)))

    def test_attributes(self):
        self.assert_same(vars(N), {"many": 4, "befores": ((0, 2), (1, 2), (1, 3))})
        self.assert_same(vars(ONE), {"many": 1, "befores": ()})
        self.assert_same(vars(APART8), {"many": 8, "befores": ()})

    def test_all_that_follow_are_befores(self):
        every = tuple((one, other) for one in range(8) for other in range(one + 1, 8))
        self.assert_same(ROW8.befores, every)
        self.assert_same(Web(5, ((1, 0), (2, 3), (3, 1), (4, 2))).befores,
                         ((1, 0), (2, 0), (2, 1), (2, 3), (3, 0), (3, 1),
                          (4, 0), (4, 1), (4, 2), (4, 3)))
        back = tuple((name + 1, name) for name in range(7))
        self.assertEqual(len(Web(8, back).befores), 28)

    def test_webs_that_are_closed_keep_their_befores(self):
        self.assertEqual([len(all_webs(many)) for many in (1, 2, 3, 4)], [1, 3, 19, 219])
        for web in FEW_WEBS:
            self.assert_same(Web(web.many, web.befores), web)

    def test_many_that_are_none(self):
        for thing in strange():
            if thing not in (3, 8):
                self.assert_refused(BadWeb, {"part": "many"}, Web, thing, ())
        for many in (0, 9):
            self.assert_refused(BadWeb, {"part": "many"}, Web, many, ())

    def test_befores_that_are_none(self):
        for thing in strange():
            self.assert_refused(BadWeb, {"part": "befores"}, Web, 3, thing)
        for thing in [
            [], [(0, 1)], ([0, 1],), ((0, 1), [1, 2]), ((0, 1, 2),), ((0,),), ((),), ("01",),
            ((0, 0),), ((0, 3),), ((3, 0),), ((-1, 0),), ((0, -1),), ((0, 1), (0, 1)),
            ((0, 2), (0, 1)), ((1, 2), (0, 1)), ((0, 1), (1, 1)), ((0, True),), ((False, 1),),
            ((0, 1), None), ((0, "1"),), ((0, 10 ** 59),), ((0, (1,)),),
        ]:
            self.assert_refused(BadWeb, {"part": "befores"}, Web, 3, thing)

    def test_rings(self):
        for many, befores in [
            (2, ((0, 1), (1, 0))), (3, ((0, 1), (1, 2), (2, 0))),
            (4, ((0, 1), (1, 2), (2, 3), (3, 1))),
            (8, tuple((name, (name + 1) % 8) for name in range(8))),
        ]:
            self.assert_refused(BadWeb, {"part": "ring"}, Web, many, befores)

    def test_the_first_that_is_not_as_told(self):
        self.assert_refused(BadWeb, {"part": "many"}, Web, True, [])
        self.assert_refused(BadWeb, {"part": "many"}, Web, 9, ((0, 1), (1, 0)))
        self.assert_refused(BadWeb, {"part": "befores"}, Web, 2, ((0, 1), (1, 0), (1, 2)))
        self.assert_refused(BadWeb, {"part": "befores"}, Web, 2, [(0, 1), (1, 0)])

    def test_equal_webs(self):
        self.assert_flag(Web(3, ((0, 1), (1, 2))) == Web(3, ((0, 1), (0, 2), (1, 2))), True)
        self.assert_flag(T == Web(3, ((0, 2),)), True)
        self.assert_flag(T != Web(3, ((0, 2),)), False)
        self.assert_flag(T == Web(4, ((0, 2),)), False)
        self.assert_flag(T == F, False)
        self.assert_flag(T != F, True)

    def test_webs_are_equal_to_nothing_else(self):
        class Other:
            many = 3
            befores = ((0, 2),)

        for thing in [*strange(), (3, ((0, 2),)), Other()]:
            self.assert_flag(T == thing, False)
            self.assert_flag(thing == T, False)


class AskingWebsTest(Case):
    def test_ahead_and_behind(self):
        self.assert_same(ahead_of(N, 2), (0, 1))
        self.assert_same(ahead_of(N, 0), ())
        self.assert_same(behind_of(N, 1), (2, 3))
        self.assert_same(ahead_of(ROW8, 7), (0, 1, 2, 3, 4, 5, 6))
        self.assert_same(behind_of(ROW8, 0), (1, 2, 3, 4, 5, 6, 7))
        self.assert_same(ahead_of(ONE, 0), ())
        for web in FEW_WEBS:
            for name in range(web.many):
                names = range(web.many)
                self.assert_same(ahead_of(web, name),
                                 tuple(one for one in names if (one, name) in web.befores))
                self.assert_same(behind_of(web, name),
                                 tuple(one for one in names if (name, one) in web.befores))

    def test_no_name(self):
        for function in (ahead_of, behind_of):
            for thing in [*strange(), ()]:
                self.assert_refused(NoName, {}, function, T, thing)
            self.assert_refused(NoName, {}, function, APART8, 8)
            self.assert_refused(NoName, {}, function, ONE, 1)

    def test_straight(self):
        self.assert_same(straight(ROW8), [(name, name + 1) for name in range(7)])
        self.assert_same(straight(N), [(0, 2), (1, 2), (1, 3)])
        self.assert_same(straight(APART8), [])
        self.assert_same(straight(Web(4, ((0, 3), (1, 3), (2, 0), (2, 3)))),
                         [(0, 3), (1, 3), (2, 0)])
        for web in FEW_WEBS + GREATER_WEBS:
            self.assert_same(Web(web.many, tuple(straight(web))), web)
            for at in range(len(straight(web))):
                fewer = straight(web)[:at] + straight(web)[at + 1:]
                self.assertNotEqual(Web(web.many, tuple(fewer)), web)

    def test_open_pairs(self):
        self.assert_same(open_pairs(N), [(0, 1), (0, 3), (2, 3)])
        self.assert_same(open_pairs(Web(3, ((2, 0),))), [(0, 1), (1, 2)])
        self.assert_same(open_pairs(ROW8), [])
        self.assertEqual(len(open_pairs(APART8)), 28)

    def test_closed_lots(self):
        self.assert_same(closed_lots(T), [(), (0,), (0, 1), (0, 1, 2), (0, 2), (1,)])
        self.assert_same(closed_lots(ONE), [(), (0,)])
        self.assert_same(closed_lots(ROW8), [tuple(range(size)) for size in range(9)])
        self.assertEqual(len(closed_lots(APART8)), 256)
        for web in FEW_WEBS + GREATER_WEBS:
            self.assert_same(closed_lots(web), brute_lots(web))

    def test_may_come(self):
        self.assert_same(may_come(T, ()), (0, 1))
        self.assert_same(may_come(T, (0,)), (1, 2))
        self.assert_same(may_come(T, (1,)), (0,))
        self.assert_same(may_come(T, (0, 1, 2)), ())
        for web in FEW_WEBS:
            lots = brute_lots(web)
            for lot in lots:
                self.assert_same(may_come(web, lot), tuple(
                    name for name in range(web.many)
                    if name not in lot and tuple(sorted((*lot, name))) in lots))

    def test_no_lot(self):
        for thing in strange():
            self.assert_refused(NoLot, {}, may_come, T, thing)
        for thing in [(2,), (1, 2), [0], (0, 0), (1, 0), (True,), (0, 3)]:
            self.assert_refused(NoLot, {}, may_come, T, thing)

    def test_lists_are_new(self):
        for function in (straight, open_pairs, closed_lots):
            self.assert_new(function, N)


if __name__ == "__main__":
    unittest.main()
