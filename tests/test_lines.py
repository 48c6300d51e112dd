"""5.1: led; 5.2: lost_line and made_line."""

import itertools
import math
import unittest

from helper import FOUR, GREAT, ONE, THREE, TWO, drawer, drawn, kinds_in, refusal, refuses_table, row_led, way_product
from helper import ways_of, whatever
from noughtways.errors import NoLine, NoTable, TooGreat
from noughtways.lines import led, lost_line, made_line
from noughtways.ranks import line_of, lost, rank

HUGE = 10 ** 2000 + 7
RIGHT = ((0, 1), (0, 0))
SWAP = ((0, 1), (1, 0))
STEP = ((1, 1), (0, 1))


def small_tables():
    return [(numbers[:2], numbers[2:]) for numbers in itertools.product(range(-2, 3), repeat=4)]


def small_lines():
    return sorted({line_of(row) for row in itertools.product(range(-3, 4), repeat=2) if any(row)})


def wrong_lines():
    """Things that are no line of size 2."""
    return whatever() + [
        (0, 0), (2, 4), (-1, 2), (0, -1), (-1, 0), (0, 2), (2, 0), (-2, -4), (10 ** 99, 10 ** 99), (0, 10 ** 99),
        (1,), (1, 0, 0), (0, 1, 0), (), [1, 0], [0, 1], (True, 0), (1, False), (True, False), (1, None), ("1", "0"),
        ((1, 0),), [(1, 0)], ((1,), (0,)), {1: 0}, "10", (1, (0,)), (1, [0]),
    ]


class TestLed(unittest.TestCase):

    def test_worked_out_by_hand(self):
        for table, line, due in (
                (TWO, (1, 0), (1, 2)), (TWO, (0, 1), (3, 4)), (TWO, (1, 1), (2, 3)), (TWO, (1, -1), (1, 1)),
                (TWO, (3, -1), (0, 1)), (TWO, (2, -1), (1, 0)), (RIGHT, (1, 0), (0, 1)), (RIGHT, (0, 1), None),
                (RIGHT, (5, 7), (0, 1)), (SWAP, (2, -3), (3, -2)), (STEP, (1, -4), (1, -3)), (STEP, (0, 1), (0, 1)),
                (((-3, -6), (5, 10)), (1, 0), (1, 2)), (((-3, -6), (5, 10)), (5, 3), None),
                (((0, 0), (0, 0)), (1, 0), None), (((0, 0), (0, 0)), (3, -7), None), (GREAT, (1, 1), (10 ** 12, 1)),
                (((HUGE, 0), (0, HUGE)), (3, -7), (3, -7)), (((HUGE, 1), (-HUGE, -1)), (1, 1), None),
                (((-1, 0), (0, 1)), (10 ** 99, 1), (10 ** 99, -1))):
            self.assertEqual(kinds_in(led(table, line)), kinds_in(due), (table, line))

    def test_the_line_of_what_the_table_leads_it_to(self):
        for table in small_tables():
            for line in small_lines():
                row = row_led(line, table)
                told = led(table, line)
                if not any(row):
                    self.assertIsNone(told)
                    continue
                self.assertEqual(row[0] * told[1], row[1] * told[0])
                self.assertEqual(math.gcd(*told), 1)
                self.assertGreater(told, (0, 0))

    def test_no_line(self):
        for table in (TWO, RIGHT, GREAT, ((0, 0), (0, 0))):
            for thing in wrong_lines():
                refusal(self, NoLine, led, table, thing)

    def test_other_sizes_ahead_of_no_line(self):
        for line in [(1, 0), (2, 0), (1, 0, 0), (1, 0, 0, 0), (1,)] + whatever():
            refuses_size(self, led, line)

    def test_no_table_ahead_of_all(self):
        for line in ((1, 0), (2, 0), None, [1, 0]):
            refuses_table(self, led, line)


def refuses_size(case, call, *behind):
    """Tables of another size than 2 are refused, ahead of what is handed in behind them."""
    for table in (THREE, FOUR, ((0,) * 3,) * 3, ((10 ** 99,) * 4,) * 4):
        error = refusal(case, TooGreat, call, table, *behind)
        case.assertEqual(kinds_in((error.many, error.most)), kinds_in((len(table), 2)))
    for table in (ONE, ((0,),), ((-(10 ** 99),),)):
        refusal(case, NoTable, call, table, *behind)


class TestLostAndMadeLine(unittest.TestCase):

    def test_worked_out_by_hand(self):
        for table, lost_due, made_due in (
                (RIGHT, (0, 1), (0, 1)), (((0, 0), (1, 0)), (1, 0), (1, 0)), (((1, 0), (0, 0)), (0, 1), (1, 0)),
                (((0, 0), (0, 1)), (1, 0), (0, 1)), (((2, 3), (4, 6)), (2, -1), (2, 3)),
                (((2, 3), (-4, -6)), (2, 1), (2, 3)),
                (((0, 0), (-4, 6)), (1, 0), (2, -3)), (((-6, 9), (4, -6)), (2, 3), (2, -3)),
                (((5, 0), (7, 0)), (7, -5), (1, 0)),
                (((1, -1), (1, -1)), (1, -1), (1, -1)), (((0, -7), (0, 7)), (1, 1), (0, 1)),
                (((HUGE, 2 * HUGE), (3 * HUGE, 6 * HUGE)), (3, -1), (1, 2)), (((HUGE, 0), (1, 0)), (1, -HUGE), (1, 0))):
            self.assertEqual(kinds_in(lost_line(table)), kinds_in(lost_due), table)
            self.assertEqual(kinds_in(made_line(table)), kinds_in(made_due), table)

    def test_by_the_words_of_the_point(self):
        found = 0
        for table in small_tables():
            if rank(table) == 1:
                found += 1
                self.assertEqual([lost_line(table)], lost(table))
                self.assertIsNone(led(table, lost_line(table)))
                for line in small_lines():
                    if line != lost_line(table):
                        self.assertEqual(led(table, line), made_line(table))
        self.assertGreater(found, 100)

    def test_no_line_of_another_rank(self):
        for call in (lost_line, made_line):
            for table in small_tables():
                if rank(table) != 1:
                    refusal(self, NoLine, call, table)
            for table in (GREAT, ((HUGE, 1), (-1, HUGE)), ((0, 0), (0, 0)), TWO):
                refusal(self, NoLine, call, table)

    def test_other_sizes_and_what_is_no_table(self):
        for call in (lost_line, made_line):
            refuses_size(self, call)
            refuses_table(self, call)


def told_by_lines(tables, way):
    """Whether a way is to nought, by the words of 5.2."""
    for at, place in enumerate(way):
        if rank(tables[place]) == 0:
            return True
        if rank(tables[place]) == 1:
            line = made_line(tables[place])
            for later in way[at + 1:]:
                if rank(tables[later]) == 1 and line == lost_line(tables[later]):
                    return True
                line = led(tables[later], line)
                if line is None:
                    break
    return False


class TestWaysByLines(unittest.TestCase):

    def test_a_way_is_to_nought_just_where_lines_tell_it(self):
        draw = drawer(52)
        told = 0
        for often in range(60):
            tables = [drawn(draw, 2, -1, 1) for at in range(2)]
            for way in [way for places in range(1, 6) for way in ways_of(2, places)]:
                due = not any(any(row) for row in way_product(tables, way))
                told += due
                self.assertEqual(told_by_lines(tables, way), due, (tables, way))
        self.assertGreater(told, 100)

    def test_one_without_such_tables_never_is(self):
        for table in small_tables():
            if rank(table) == 2:
                for way in ways_of(2, 4):
                    self.assertTrue(any(any(row) for row in way_product([table, STEP], way)))


if __name__ == "__main__":
    unittest.main()
