"""6.1: row_led, row_along; 6.2: lost_in, lost_by."""

import itertools
import unittest

from helper import FOUR, GREAT, LIMIT, ONE, THREE, TWO, drawer, drawn, fading, kinds_in, nought, refusal
from helper import refuses_tables, thinned, ways_of, wrong_places, wrong_rests, wrong_rows, wrong_ways_or_none
from noughtways.errors import NoRest, NoRow, NoWay
from noughtways.rowways import column_holds, column_of, lost_by, lost_in, row_along, row_fence, row_fence_holds, row_led
from noughtways.tables import along

RESTS = range(2, 8)
RIGHT = ((0, 1), (0, 0))
LEFT = ((0, 0), (1, 0))
SWAP = ((0, 1), (1, 0))
STEP = ((1, 1), (0, 1))
TURN = ((0, 1, 0), (0, 0, 1), (1, 0, 0))
JOIN = ((1, 0, 0), (0, 1, 0), (0, 0, 0))
THREE_IN_FOUR = tuple([row + (1,) for row in THREE]) + ((1, 1, 1, 2),)
ON_FOUR = ((0, 1, 0, 0), (0, 0, 1, 0), (0, 0, 0, 1), (1, 1, 0, 0))
TURN_FOUR = ((1, 0, 0, 0), (0, 0, 1, 0), (0, 0, 0, 1), (0, 1, 0, 0))
DIM_FOUR = ((0, 0, 0, 0), (0, 1, 0, 0), (0, 0, 1, 0), (0, 0, 0, 1))


def led(row, table):
    return tuple([sum(row[i] * table[i][j] for i in range(len(row))) for j in range(len(row))])


def led_along(tables, row, way):
    for at in way:
        row = led(row, tables[at])
    return row


def first_by_all(tables, row, most, m):
    """The first way of at most so many places to nought, or by m where m is a number, all ways gone through."""
    for places in range(most + 1):
        for way in ways_of(len(tables), places):
            if not any(number % m if m else number for number in led_along(tables, row, way)):
                return way
    return None


def ways_by_rests(tables, row, m):
    """Each row of rests that is met, with its first way, found by going on till nothing new is met."""
    told = {}
    level = [((), tuple([number % m for number in row]))]
    while level:
        fresh = []
        for way, met in level:
            if met not in told:
                told[met] = way
                fresh.append((way, met))
        level = [(way + (at,), tuple([number % m for number in led(met, tables[at])]))
                 for way, met in fresh for at in range(len(tables))]
    return told


def some_questions():
    """Tables, and a row of theirs."""
    draw = drawer(61)
    told = [([ONE], (0,)), ([ONE], (5,)), ([((0,),)], (5,)), ([RIGHT], (1, 0)), ([RIGHT], (0, 1)), ([SWAP], (0, 0)),
            ([RIGHT, LEFT], (1, 1)), ([SWAP, RIGHT], (1, -1)), ([((1, 2), (1, 2)), SWAP], (1, -1)),
            ([((2, 2), (-2, -2)), STEP], (0, 1)), ([TURN, JOIN], (1, 1, 1)), ([GREAT, RIGHT], (LIMIT, -LIMIT)),
            ([THREE], (1, -2, 1)), ([FOUR], (1, -1, -1, 1)), ([TURN], (-1, 0, 2))]
    for size in range(1, 5):
        for often in range(12):
            many = draw.randint(1, 3)
            for tables in ([drawn(draw, size, -2, 2) for at in range(many)], fading(draw, size, many),
                           [thinned(draw, size) for at in range(many)]):
                told.append((tables, tuple([draw.randint(-3, 3) for place in range(size)])))
    return told


class TestRowLed(unittest.TestCase):

    def test_worked_out_by_hand(self):
        for tables, row, at, due in (
                ([ONE], (3,), 0, (21,)), ([ONE], (0,), 0, (0,)), ([ONE, ((-2,),)], (-5,), 1, (10,)),
                ([TWO], (1, 0), 0, (1, 2)), ([TWO], (0, 1), 0, (3, 4)), ([TWO], (1, 1), 0, (4, 6)),
                ([TWO], (-2, 1), 0, (1, 0)), ([TWO, RIGHT], (5, 7), 1, (0, 5)), ([RIGHT, LEFT], (5, 7), 1, (7, 0)),
                ([STEP], (-3, 4), 0, (-3, 1)), ([THREE], (1, -2, 1), 0, (0, 0, 0)),
                ([THREE], (0, 1, 2), 0, (18, 21, 24)), ([TURN], (4, 5, 6), 0, (6, 4, 5)),
                ([FOUR] * 4, (0, 0, 1, -1), 3, (-4, -4, -4, -4)),
                ([GREAT], (10 ** 99, -(10 ** 99)), 0, (10 ** 111, -(10 ** 99))),
                ([((1, -1), (10 ** 11, 10 ** 11))], (10 ** 50, 1), 0, (10 ** 50 + 10 ** 11, 10 ** 11 - 10 ** 50))):
            self.assertEqual(kinds_in(row_led(tables, row, at)), kinds_in(due), (tables, row, at))

    def test_as_if_it_stood_alone_ahead_of_the_table(self):
        for tables, row in some_questions():
            for at in range(len(tables)):
                self.assertEqual(row_led(tables, row, at), led(row, tables[at]))

    def test_what_is_no_place(self):
        for many in range(1, 5):
            for thing in wrong_places(many):
                refusal(self, NoWay, row_led, [TWO] * many, (1, 2), thing)
                refusal(self, NoWay, row_led, [FOUR] * many, (0, 0, 0, 0), thing)
            self.assertEqual(row_led([TWO] * many, (1, 0), many - 1), (1, 2))


class TestRowAlong(unittest.TestCase):

    def test_worked_out_by_hand(self):
        for tables, row, way, due in (
                ([ONE], (3,), (), (3,)), ([ONE], (3,), (0, 0), (147,)), ([TWO], (-1, 10 ** 99), (), (-1, 10 ** 99)),
                ([RIGHT, LEFT], (5, 7), (0,), (0, 5)), ([RIGHT, LEFT], (5, 7), (0, 1), (5, 0)),
                ([RIGHT, LEFT], (5, 7), (1, 0), (0, 7)), ([RIGHT, LEFT], (5, 7), (0, 0), (0, 0)),
                ([STEP, SWAP], (1, 2), (0, 1, 0), (3, 4)), ([STEP, SWAP], (1, 2), (1, 0, 0), (2, 5)),
                ([STEP], (1, -200), (0,) * 200, (1, 0)), ([((-10 ** 11,),)], (-1,), (0,) * 199, (10 ** 2189,)),
                ([TURN, JOIN], (1, 2, 3), (0, 1, 0), (0, 3, 1)), ([FOUR], (1, -2, 1, 0), (0,), (0, 0, 0, 0))):
            self.assertEqual(kinds_in(row_along(tables, row, way)), kinds_in(due), (tables, row, way))

    def test_one_table_behind_the_other(self):
        for tables, row in some_questions():
            self.assertEqual(row_along(tables, row, ()), row)
            for way in [way for many in range(1, 4) for way in ways_of(len(tables), many)]:
                self.assertEqual(row_along(tables, row, way), led_along(tables, row, way))
                self.assertEqual(row_along(tables, row, way), led(row, along(tables, way)))

    def test_what_is_no_way(self):
        for many in range(1, 4):
            for thing in wrong_ways_or_none(many):
                refusal(self, NoWay, row_along, [TWO] * many, (1, 2), thing)
                refusal(self, NoWay, row_along, [THREE] * many, (0, 0, 0), thing)
        self.assertEqual(row_along([STEP], (1, 0), (0,) * 200), (1, 200))


class TestLostIn(unittest.TestCase):

    def test_worked_out_by_hand(self):
        for tables, row, most, due in (
                ([ONE], (0,), 0, ()), ([ONE], (0,), 6, ()), ([ONE], (1,), 6, None), ([((0,),)], (1,), 0, None),
                ([((0,),)], (1,), 1, (0,)), ([ONE, ((0,),)], (-1,), 6, (1,)), ([RIGHT], (0, 5), 6, (0,)),
                ([RIGHT], (5, 0), 1, None), ([RIGHT], (5, 0), 2, (0, 0)), ([RIGHT, LEFT], (1, 1), 2, (0, 0)),
                ([LEFT, RIGHT], (1, 0), 6, (0,)), ([LEFT, RIGHT], (0, 1), 6, (1,)), ([SWAP], (1, 1), 6, None),
                ([SWAP, ((1, 0), (0, 0))], (1, 1), 2, None), ([SWAP, ((1, 0), (0, 0))], (1, 1), 3, (1, 0, 1)),
                ([STEP, ((0, 0), (0, 1))], (1, -3), 4, (0, 0, 0, 1)),
                ([STEP, ((1, 0), (0, 0))], (0, 1), 6, (1,)), ([TURN, JOIN], (1, 1, 1), 4, None),
                ([TURN, JOIN], (1, 1, 1), 5, (1, 0, 1, 0, 1)), ([TURN, JOIN], (0, 0, 4), 6, (1,)),
                ([THREE], (1, -2, 1), 1, (0,)), ([FOUR], (1, -1, -1, 1), 6, (0,)),
                ([STEP, ((1, 1), (1, 1))], (1, -4), 6, (0, 0, 0, 1)), ([STEP, ((1, 1), (1, 1))], (1, -4), 3, None),
                ([STEP, ((1, 1), (1, 1))], (1, -6), 5, None), ([STEP, ((1, 1), (1, 1))], (1, -6), 6, (0,) * 5 + (1,))):
            self.assertEqual(kinds_in(lost_in(tables, row, most)), kinds_in(due), (tables, row, most))

    def test_against_all_ways_gone_through(self):
        found = dict.fromkeys(range(7), 0)
        for tables, row in some_questions():
            first = first_by_all(tables, row, 6 if len(tables) < 3 else 4, None)
            for most in range(7 if len(tables) < 3 else 5):
                due = first if first is not None and len(first) <= most else None
                self.assertEqual(lost_in(tables, row, most), due, (tables, row, most))
            if first is not None:
                found[len(first)] += 1
        self.assertGreater(min(found[0], found[1], found[2], found[3]), 2)

    def test_all_small_rows(self):
        for tables in ([STEP, ((1, 1), (1, 1))], [((2, 2), (-2, -2)), STEP, SWAP], [SWAP, RIGHT]):
            for row in itertools.product(range(-3, 4), repeat=2):
                for most in range(5):
                    self.assertEqual(lost_in(tables, row, most), first_by_all(tables, row, most, None))

    def test_four_tables_and_six_places(self):
        tables = [STEP, ((1, 0), (1, 1)), ((-1, 2), (3, 5)), ((LIMIT - 1, 7), (1 - LIMIT, 3))]
        self.assertIsNone(lost_in(tables, (1, 0), 6))
        fall = ((0, 1, 0, 0), (0, 0, 1, 0), (0, 0, 0, 1), (0, 0, 0, 0))
        self.assertEqual(lost_in([FOUR, THREE_IN_FOUR, fall, fall], (9, 9, 9, 9), 6), (2, 2, 2, 2))

    def test_what_was_told_is_handed_in(self):
        great = along([((10 ** 11, 1), (0, 10 ** 11))], (0,) * 200)
        row = row_along([great], (1, -1), (0,))
        self.assertIsNone(lost_in([great, SWAP], row, 4))
        self.assertEqual(lost_in([great, RIGHT], row, 4), (1, 1))
        self.assertEqual(row_led([great], (0, 1), 0), (0, 10 ** 2200))


class TestLostBy(unittest.TestCase):

    def test_worked_out_by_hand(self):
        for tables, row, m, due in (
                ([ONE], (0,), 2, ()), ([ONE], (1,), 7, (0,)), ([ONE], (1,), 6, None), ([ONE], (6,), 6, ()),
                ([ONE], (-6,), 3, ()), ([((2,),)], (1,), 4, (0, 0)), ([((2,),)], (-2,), 4, (0,)),
                ([((2,),)], (1,), 6, None), ([((2,),), ((3,),)], (1,), 6, (0, 1)),
                ([((2,),), ((3,),)], (4,), 6, (1,)), ([SWAP], (2, 4), 2, ()), ([SWAP], (2, 4), 3, None),
                ([RIGHT], (5, 1), 5, (0,)), ([RIGHT], (5, 1), 3, (0, 0)),
                ([STEP, ((1, 0), (0, 0))], (0, 1), 7, (1,)), ([STEP, ((0, 0), (0, 1))], (1, 1), 7, (0,) * 6 + (1,)),
                ([STEP, ((0, 0), (0, 1))], (1, 1), 2, (0, 1)), ([STEP, ((0, 0), (0, 1))], (3, 0), 3, ()),
                ([TURN, JOIN], (1, 1, 1), 5, (1, 0, 1, 0, 1)), ([FOUR], (1, 1, 1, 1), 4, (0,)),
                ([GREAT], (10 ** 99, 0), 5, ()), ([GREAT], (10 ** 99 + 1, 0), 5, (0,)), ([GREAT], (0, 1), 5, None)):
            self.assertEqual(kinds_in(lost_by(tables, row, m)), kinds_in(due), (tables, row, m))

    def test_of_any_length(self):
        for tables, row in some_questions():
            for m in RESTS if len(row) < 3 else (2, 3):
                due = ways_by_rests(tables, row, m).get((0,) * len(row))
                self.assertEqual(lost_by(tables, row, m), due, (tables, row, m))

    def test_against_all_ways_gone_through(self):
        for tables, row in some_questions():
            most = 5 if len(tables) < 3 else 3
            for m in RESTS:
                first = first_by_all(tables, row, most, m)
                way = lost_by(tables, row, m)
                if first is not None:
                    self.assertEqual(way, first, (tables, row, m))
                else:
                    self.assertTrue(way is None or len(way) > most, (tables, row, m))

    def test_four_places_by_seven(self):
        tables = [ON_FOUR, TURN_FOUR, DIM_FOUR]
        due = ways_by_rests(tables, (1, 2, 3, 4), 7)[(0, 0, 0, 0)]
        self.assertGreater(len(due), 6)
        self.assertEqual(lost_by(tables, (1, 2, 3, 4), 7), due)
        self.assertIsNone(lost_by(tables[:2], (1, 2, 3, 4), 7))

    def test_no_rest_behind_no_row(self):
        calls = [(lost_by, ()), (row_fence, ()), (row_fence_holds, ([(1, 1)],)), (row_fence_holds, (None,))]
        for call, behind in calls:
            for thing in wrong_rests():
                refusal(self, NoRest, call, [TWO], (1, 1), thing, *behind)
                refusal(self, NoRest, call, [FOUR], (0, 0, 0, 0), thing, *behind)
                refusal(self, NoRow, call, [TWO], (1, 1, 1), thing, *behind)
                refusal(self, NoRow, call, [TWO], None, thing, *behind)


class TestRefusals(unittest.TestCase):

    calls = ((row_led, (0,)), (row_led, (None,)), (row_led, (7,)), (row_along, ((),)), (row_along, ((0,),)),
             (row_along, ([],)), (lost_in, (0,)), (lost_in, (6,)), (lost_by, (2,)), (lost_by, (8,)), (lost_by, (None,)),
             (row_fence, (7,)), (row_fence, (True,)), (row_fence_holds, (2, [(1, 1)])), (row_fence_holds, (0, None)),
             (column_holds, ((1, 1),)), (column_holds, (None,)), (column_of, ()))

    def test_no_tables_ahead_of_all(self):
        for call, behind in self.calls:
            for row in ((1, 2), (0,), None, [1, 2]):
                refuses_tables(self, call, row, *behind)

    def test_no_row_ahead_of_what_is_behind(self):
        for call, behind in self.calls:
            for size, table in enumerate((ONE, TWO, THREE, FOUR), start=1):
                for row in wrong_rows(size):
                    refusal(self, NoRow, call, [table], row, *behind)
            for row in wrong_rows(2):
                refusal(self, NoRow, call, [GREAT] * 4, row, *behind)

    def test_the_row_of_noughts_is_a_row(self):
        for size, table in enumerate((ONE, TWO, THREE, FOUR), start=1):
            row = nought(size)[0]
            self.assertEqual(row_led([table], row, 0), row)
            self.assertEqual(lost_in([table], row, 0), ())
            self.assertEqual(lost_by([table], row, 7), ())


if __name__ == "__main__":
    unittest.main()
