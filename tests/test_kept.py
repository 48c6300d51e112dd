"""0.2: nothing handed in is changed, the same question has the same answer, what was told is handed in again."""

import unittest

from helper import FOUR, GREAT, LIMIT, ONE, THREE, TWO, kinds_in, no_tables_at_all, refusal, whatever
from noughtways.allways import all_nought, first_left, stair_holds, stair_of
from noughtways.changes import beside, changed, joined, powered, spread, turned_all, undone, way_back
from noughtways.counts import always_from, ever, fresh_many, left_sets, share, way_at, way_number, ways_many
from noughtways.desk import Desk
from noughtways.errors import Below, NoLine, NoRest, NoRow, NoSet, NoTable, NoTables, NoText, NoWay, TooGreat
from noughtways.lines import led, lost_line, made_line
from noughtways.marks import alike_marks, all_marks, fading, fading_many, kinds_many, mark_of
from noughtways.orders import order_holds, order_of, ring_holds, ring_of
from noughtways.ranks import determinant, line_of, lost, rank
from noughtways.rests import barred_by, rest_along, rest_fence, rest_fence_holds, rest_table, rest_way
from noughtways.rowways import column_holds, column_of, lost_by, lost_in, row_along, row_fence, row_fence_holds, row_led
from noughtways.signs import first_met, set_along, set_led, sets_met, sign_fence, sign_fence_holds, sign_way
from noughtways.small import longest, pair_lengths
from noughtways.tables import along, is_nought, is_table, product, tables_wrong, turned
from noughtways.texts import table_read, table_shown, tables_read, tables_shown
from noughtways.twoways import fence_holds, fence_of, line_way, shortest

NEAR = ((LIMIT - 1, 1 - LIMIT), (5, LIMIT - 1))
RIGHT = ((0, 1), (0, 0))
SWAP = ((0, 1), (1, 0))
STAY = ((1, 0), (0, 1))
STAIR = [[(1, 0), (0, 1)], [(0, 1)]]


def questions():
    """Calls and what is handed to them, made anew each time."""
    return [
        (is_table, (TWO,)), (is_table, ([[1]],)), (is_table, (GREAT,)),
        (tables_wrong, ([TWO, ((0, 1), (1, 0))],)), (tables_wrong, ([TWO, [1], {}],)), (tables_wrong, ({},)),
        (product, (TWO, ((5, 6), (7, 8)))), (product, (FOUR, FOUR)), (product, (GREAT, NEAR)),
        (along, ([TWO, GREAT], (0, 1, 0))), (along, ([NEAR], (0,) * 200)), (along, ([THREE] * 4, (3, 2))),
        (is_nought, (ONE,)), (is_nought, (((0, 0), (0, 0)),)),
        (turned, (TWO,)), (turned, (THREE,)), (turned, (GREAT,)),
        (rank, (FOUR,)), (rank, (GREAT,)), (determinant, (NEAR,)), (determinant, (FOUR,)), (line_of, ((4, -6, 0),)),
        (lost, (THREE,)), (lost, (FOUR,)), (lost, (((0, 0), (0, 0)),)), (lost, (TWO,)),
        (all_nought, ([RIGHT, RIGHT],)), (all_nought, ([GREAT],)), (first_left, ([RIGHT, NEAR],)),
        (stair_of, ([RIGHT, RIGHT],)), (stair_of, ([TWO],)), (stair_of, ([((1, -1), (1, -1))],)),
        (stair_holds, ([RIGHT], [list(lines) for lines in STAIR])), (stair_holds, ([TWO], [[(1, 0)], []])),
        (order_of, ([RIGHT, RIGHT],)), (order_of, ([TWO],)), (ring_of, ([((0, 1), (1, 0))],)), (ring_of, ([RIGHT],)),
        (order_holds, ([RIGHT], (0, 1))), (order_holds, ([RIGHT], [0, 1])), (ring_holds, ([GREAT], (1,))),
        (set_led, ([RIGHT, TWO], (0,), 1)), (set_along, ([RIGHT, TWO], (0, 1), (0, 1))), (sign_way, ([RIGHT, TWO],)),
        (sign_fence, ([TWO, GREAT],)), (sign_fence, ([RIGHT],)), (sign_fence_holds, ([TWO], [(0, 1)])),
        (sets_met, ([RIGHT],)), (sets_met, ([TWO],)), (first_met, ([RIGHT], (1,))), (first_met, ([TWO], (0,))),
        (rest_table, (NEAR, 7)), (rest_along, ([NEAR, TWO], (0, 1, 1), 5)), (rest_way, ([RIGHT, NEAR], 3)),
        (rest_way, ([SWAP], 2)), (rest_fence, ([SWAP], 2)), (rest_fence, ([NEAR], 7)), (rest_fence, ([RIGHT], 2)),
        (rest_fence_holds, ([SWAP], 2, [SWAP, ((1, 0), (0, 1))])), (barred_by, ([NEAR],)), (barred_by, ([FOUR],)),
        (led, (TWO, (1, -1))), (led, (RIGHT, (0, 1))), (lost_line, (RIGHT,)), (made_line, (((2, 3), (4, 6)),)),
        (shortest, ([RIGHT, SWAP], 12)), (shortest, ([NEAR], 12)), (line_way, ([NEAR, RIGHT], (1, 2), 6)),
        (fence_of, ([SWAP, ((1, 2), (1, 2))], 9)), (fence_of, ([NEAR], 1)), (fence_of, ([RIGHT], 60)),
        (fence_holds, ([SWAP], [(0, 1), (1, 0)])), (fence_holds, ([RIGHT], [])),
        (row_led, ([TWO, NEAR], (1, -2), 1)), (row_along, ([TWO, NEAR], (1, -2), (0, 1))),
        (row_along, ([TWO], (3, 4), ())),
        (lost_in, ([RIGHT, NEAR], (1, 1), 4)), (lost_in, ([NEAR], (1, 1), 2)), (lost_by, ([RIGHT, SWAP], (1, 5), 3)),
        (row_fence, ([SWAP], (1, 5), 3)), (row_fence, ([RIGHT], (1, 5), 3)),
        (row_fence_holds, ([SWAP], (1, 1), 2, [(1, 1)])), (column_holds, ([SWAP], (1, 0), (1, 1))),
        (column_of, ([SWAP], (1, 0))), (column_of, ([NEAR], (1, 0))),
        (ways_many, ([RIGHT, SWAP], 9)), (fresh_many, ([RIGHT, SWAP], 9)), (left_sets, ([RIGHT, SWAP], 9)),
        (way_at, ([RIGHT, SWAP], 4, 3)), (way_number, ([RIGHT, SWAP], (0, 0, 1))), (always_from, ([RIGHT],)),
        (always_from, ([GREAT],)), (ever, ([RIGHT, GREAT],)), (share, ([RIGHT, SWAP], 9)),
        (all_marks, (2,)), (mark_of, (GREAT,)), (fading, (2,)), (fading_many, (8,)), (alike_marks, (2,)),
        (kinds_many, (3,)),
        (turned_all, ([TWO, SWAP],)), (way_back, ([TWO, SWAP], (0, 1, 1))), (undone, (SWAP,)), (undone, (NEAR,)),
        (changed, ([TWO, NEAR], SWAP)), (changed, ([TWO], STAY)), (beside, ([TWO, SWAP], [GREAT, NEAR])),
        (joined, ([TWO, SWAP], [GREAT])), (powered, ([TWO, NEAR], 1, 6)), (powered, ([TWO, NEAR], 0, 1)),
        (spread, ([TWO, NEAR], 1, 3, (0, 1))), (pair_lengths, (1,)), (longest, (2, 2)), (longest, (1, 1)),
        (table_shown, (NEAR,)), (table_read, ("1 2/3 -4",)), (tables_shown, ([TWO, NEAR],)), (tables_read, ("1\n-2",)),
    ]


def lookers():
    """Calls that tell of whatever is handed in, and what is handed in ahead of it."""
    return [
        (is_table, ()), (tables_wrong, ()), (stair_holds, ([RIGHT],)), (order_holds, ([RIGHT],)),
        (ring_holds, ([GREAT, RIGHT],)), (sign_fence_holds, ([SWAP],)), (rest_fence_holds, ([SWAP], 3)),
        (fence_holds, ([SWAP, NEAR],)), (row_fence_holds, ([SWAP], (1, 1), 3)), (column_holds, ([SWAP, STAY], (1, 1))),
    ]


def spoiled(thing):
    """Does all sorts of things to the lists and dicts of what was told."""
    if isinstance(thing, dict):
        thing["more"] = 1
    if isinstance(thing, list):
        for one in thing:
            spoiled(one)
        thing.append("more")
        thing[0] = None


class TestNothingIsChanged(unittest.TestCase):

    def test_what_is_handed_in_stays(self):
        for call, handed in questions():
            ahead = kinds_in(handed)
            call(*handed)
            self.assertEqual(kinds_in(handed), ahead)

    def test_whatever_is_handed_in_stays(self):
        for call, handed in lookers():
            for thing in no_tables_at_all() + [[thing, TWO] for thing in whatever()]:
                ahead = kinds_in((handed, thing))
                self.assertIn(call(*handed, thing), (True, False, None, 0, -1))
                self.assertEqual(kinds_in((handed, thing)), ahead)

    def test_lists_told_are_the_askers_own(self):
        for call, handed in questions():
            told = call(*handed)
            due = kinds_in(told)
            ahead = kinds_in(handed)
            spoiled(told)
            self.assertEqual(kinds_in(handed), ahead)
            self.assertEqual(kinds_in(call(*handed)), due)

    def test_what_is_done_to_what_was_handed_in_changes_nothing(self):
        for call, handed in questions():
            due = kinds_in(call(*handed))
            told = call(*handed)
            for thing in handed:
                spoiled(thing)
            self.assertEqual(kinds_in(told), due, call)

    def test_what_is_done_to_the_list_behind_a_call_changes_nothing(self):
        tables = [TWO, ((0, 1), (1, 0))]
        told = along(tables, (0, 1))
        tables[0] = THREE
        tables.append(None)
        self.assertEqual(told, ((2, 1), (4, 3)))
        self.assertEqual(tables_wrong(tables), 1)
        self.assertEqual(along([TWO, ((0, 1), (1, 0))], (0, 1)), told)


class TestSameAnswer(unittest.TestCase):

    def test_again_and_in_another_order(self):
        told = [kinds_in(call(*handed)) for call, handed in questions()]
        again = [kinds_in(call(*handed)) for call, handed in questions()]
        back = [kinds_in(call(*handed)) for call, handed in reversed(questions())]
        self.assertEqual(again, told)
        self.assertEqual(back, told[::-1])

    def test_with_refusals_in_between(self):
        for call, handed in questions():
            told = kinds_in(call(*handed))
            refusal(self, NoTable, product, TWO, THREE)
            refusal(self, NoTable, turned, [TWO])
            refusal(self, NoTable, is_nought, None)
            refusal(self, NoTables, along, [TWO, THREE], (0,))
            refusal(self, NoWay, along, [TWO], (1,))
            refusal(self, NoTable, lost, [TWO])
            refusal(self, NoTables, stair_of, [RIGHT, None])
            refusal(self, Below, order_of, [RIGHT, NEAR])
            refusal(self, NoSet, first_met, [TWO], [0])
            refusal(self, NoRest, rest_fence, [TWO], 8)
            refusal(self, TooGreat, rest_way, [FOUR], 2)
            refusal(self, NoLine, line_way, [TWO], (2, 0), 12)
            refusal(self, NoRow, row_fence, [TWO], [2, 0], 2)
            refusal(self, NoWay, way_at, [RIGHT], 3, 1)
            refusal(self, Below, mark_of, NEAR)
            refusal(self, NoTable, changed, [TWO], TWO)
            refusal(self, TooGreat, joined, [TWO] * 3, [TWO] * 2)
            refusal(self, NoText, tables_read, "1\n1 1/1 1")
            refusal(self, NoRow, Desk().say, "drop")
            self.assertEqual(kinds_in(call(*handed)), told)

    def test_refusals_again(self):
        for often in range(3):
            self.assertEqual(refusal(self, NoTables, along, [TWO, TWO, None], (0,)).at, 2)
            self.assertEqual(refusal(self, NoTables, along, [], (0,)).at, -1)
            self.assertEqual(along([TWO], (0,)), TWO)


class TestHandedInAgain(unittest.TestCase):

    def test_products_of_products(self):
        told = ((10 ** 11,),)
        figures = 11
        for often in range(10):
            told = product(told, told)
            figures = 2 * figures
            self.assertEqual(told, ((10 ** figures,),))
        self.assertIs(is_nought(told), False)
        self.assertEqual(turned(told), told)
        self.assertIs(is_table(told), False)
        self.assertEqual(tables_wrong([told]), 0)

    def test_along_what_was_told(self):
        great = along([((10 ** 11, 0), (1, 10 ** 11))], (0,) * 200)
        self.assertEqual(great, ((10 ** 2200, 0), (200 * 10 ** 2189, 10 ** 2200)))
        greater = along([TWO, great, turned(great)], (1,) * 3)
        self.assertEqual(greater, ((10 ** 6600, 0), (600 * 10 ** 6589, 10 ** 6600)))
        self.assertEqual(turned(greater), ((10 ** 6600, 600 * 10 ** 6589), (0, 10 ** 6600)))
        self.assertEqual(product(great, great), along([great], (0, 0)))
        self.assertIs(is_nought(greater), False)

    def test_refusals_beside_very_great_numbers(self):
        great = along([((10 ** 11, 0), (1, -(10 ** 11)))], (0,) * 200)
        great = product(product(great, great), great)
        refusal(self, NoTable, product, great, ONE)
        refusal(self, NoTable, product, great + great, great)
        refusal(self, NoWay, along, [great], (1,))
        refusal(self, NoWay, along, [great], great[0])
        self.assertEqual(refusal(self, NoTables, along, [great, great[0]], (0,)).at, 1)

    def test_a_told_nought(self):
        told = along([((0, LIMIT - 1), (0, 0))], (0, 0))
        self.assertIs(is_nought(told), True)
        self.assertIs(is_table(told), True)
        self.assertEqual(product(told, NEAR), told)


if __name__ == "__main__":
    unittest.main()
