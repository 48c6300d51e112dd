"""1.4: rank, determinant, line_of, lost; 1.5: what follows of products."""

import itertools
import math
import unittest
from fractions import Fraction

from helper import FOUR, GREAT, LIMIT, THREE, TWO, drawer, drawn, kinds_in, refuses_table, row_led, shut
from helper import times, units
from noughtways.ranks import determinant, line_of, lost, rank
from noughtways.tables import product, turned

HUGE = 10 ** 2000 + 7

# Each with its rank and its determinant, worked out by hand.
KNOWN = [
    (((0,),), 0, 0), (((5,),), 1, 5), (((-5,),), 1, -5), (((LIMIT - 1,),), 1, LIMIT - 1), (((HUGE,),), 1, HUGE),
    (((0, 0), (0, 0)), 0, 0), (TWO, 2, -2), (((3, 4), (1, 2)), 2, 2), (((0, 1), (1, 0)), 2, -1),
    (((0, 0), (0, 3)), 1, 0), (((0, 3), (0, 0)), 1, 0), (((0, 3), (0, 5)), 1, 0), (((2, 3), (-4, -6)), 1, 0),
    (((6, 10), (9, 15)), 1, 0), (((-1, -2), (3, -4)), 2, 10), (((0, -7), (2, 100)), 2, 14),
    (((HUGE, 1), (-1, HUGE)), 2, HUGE * HUGE + 1), (((HUGE, 2 * HUGE), (3 * HUGE, 6 * HUGE)), 1, 0),
    (((LIMIT - 1, LIMIT - 2), (LIMIT - 2, LIMIT - 3)), 2, -1), (GREAT, 2, LIMIT),
    (((0, 0, 0), (0, 0, 0), (0, 0, 0)), 0, 0), (THREE, 2, 0), (((1, 2, 3), (2, 4, 6), (-1, -2, -3)), 1, 0),
    (((0, 0, 2), (0, 3, 0), (5, 0, 0)), 3, -30), (((0, 1, 0), (0, 0, 1), (1, 0, 0)), 3, 1),
    (((2, -3, 1), (2, 0, -1), (1, 4, 5)), 3, 49), (((1, 2, 3), (4, 5, 6), (7, 8, 10)), 3, -3),
    (((0, 0, 1), (0, 0, 2), (0, 0, 0)), 1, 0), (((0, 1, 1), (0, 2, 3), (0, 0, 0)), 2, 0),
    (((1, 1, 0), (0, 1, 1), (1, 0, -1)), 2, 0), (((2, 0, 0), (0, 3, 0), (2, 3, 0)), 2, 0),
    (((HUGE, 0, 0), (0, HUGE, 0), (HUGE, HUGE, 0)), 2, 0),
    (((0,) * 4,) * 4, 0, 0), (FOUR, 2, 0), (((1, 1, 1, 1),) * 4, 1, 0),
    (((1, 2, 0, 0), (3, 4, 0, 0), (0, 0, 5, 6), (0, 0, 7, 8)), 4, 4),
    (((0, 1, 0, 0), (0, 0, 1, 0), (0, 0, 0, 1), (1, 0, 0, 0)), 4, -1),
    (((0, 0, 0, 1), (0, 0, 2, 0), (0, 3, 0, 0), (4, 0, 0, 0)), 4, 24),
    (((1, 2, 3, 4), (0, 5, 6, 7), (0, 0, 8, 9), (0, 0, 0, -10)), 4, -400),
    (((1, 0, 0, 1), (0, 1, 0, 1), (0, 0, 1, 1), (1, 1, 1, 3)), 3, 0),
    (((1, 0, 0, 1), (0, 1, 0, 1), (0, 0, 1, 1), (1, 1, 1, 4)), 4, 1),
    (((2, 4, -2, 0), (3, 6, -3, 0), (0, 0, 0, 7), (5, 10, -5, -7)), 2, 0),
    (((2, 1, 0, 3), (0, 1, 4, 1), (1, 0, 2, 0), (0, 2, 1, 1)), 4, -22),
]

# Each with the lines that it loses, worked out by hand.
LOSING = [
    (((0,),), [(1,)]), (((-4,),), []), (TWO, []), (GREAT, []),
    (((0, 0), (0, 0)), [(1, 0), (0, 1)]), (((0, 1), (0, 0)), [(0, 1)]), (((0, 0), (1, 0)), [(1, 0)]),
    (((2, 3), (-4, -6)), [(2, 1)]), (((2, 3), (4, 6)), [(2, -1)]), (((6, 10), (9, 15)), [(3, -2)]),
    (((0, 0), (6, 9)), [(1, 0)]), (((6, 9), (0, 0)), [(0, 1)]),
    (((HUGE, 2 * HUGE), (3 * HUGE, 6 * HUGE)), [(3, -1)]), (((HUGE, 0), (1, 0)), [(1, -HUGE)]),
    (THREE, [(1, -2, 1)]), (((1, 2, 3), (2, 4, 6), (-1, -2, -3)), [(2, -1, 0), (1, 0, 1)]),
    (((0, 0, 1), (0, 0, 2), (0, 0, 0)), [(2, -1, 0), (0, 0, 1)]),
    (((0, 0, 0), (0, 0, 0), (1, 0, 0)), [(1, 0, 0), (0, 1, 0)]),
    (((0, 0, 0), (4, 2, 0), (6, 3, 0)), [(1, 0, 0), (0, 3, -2)]),
    (((2, 0, 0), (0, 3, 0), (2, 3, 0)), [(1, 1, -1)]), (((2, 0, 0), (0, 3, 0), (1, 1, 0)), [(3, 2, -6)]),
    (((0,) * 4,) * 4, units(4)), (FOUR, [(1, -2, 1, 0), (2, -3, 0, 1)]),
    (((1, 1, 1, 1),) * 4, [(1, -1, 0, 0), (1, 0, -1, 0), (1, 0, 0, -1)]),
    (((1, 0, 0, 1), (0, 1, 0, 1), (0, 0, 1, 1), (1, 1, 1, 3)), [(1, 1, 1, -1)]),
    (((0, 0, 0, 0), (1, 0, 0, 0), (0, 0, 0, 0), (2, 5, 0, 0)), [(1, 0, 0, 0), (0, 0, 1, 0)]),
    (((0, 1, 0, 0), (0, 0, 1, 0), (0, 0, 0, 1), (0, 0, 0, 0)), [(0, 0, 0, 1)]),
]


def step_shaped(rows):
    """The rows by fractions, each leading number a 1, alone in its column."""
    rows = [[Fraction(number) for number in row] for row in rows]
    done = 0
    for column in range(len(rows[0]) if rows else 0):
        for k in range(done, len(rows)):
            if rows[k][column] != 0:
                rows[done], rows[k] = rows[k], rows[done]
                lead = rows[done][column]
                rows[done] = [number / lead for number in rows[done]]
                for other in range(len(rows)):
                    if other != done:
                        often = rows[other][column]
                        rows[other] = [a - often * b for a, b in zip(rows[other], rows[done])]
                done += 1
                break
    return rows[:done]


def leading_columns(rows):
    return [[number != 0 for number in row].index(True) for row in step_shaped(rows)]


def sign_of(order):
    return (-1) ** sum(order[i] > order[j] for j in range(len(order)) for i in range(j))


def all_orders_sum(table):
    """The determinant by all orders of the columns."""
    return sum(sign_of(order) * math.prod(table[i][order[i]] for i in range(len(table)))
               for order in itertools.permutations(range(len(table))))


def some_tables():
    """Drawn tables of all sizes: of small numbers, of great ones, of such with rows that hang on others."""
    draw = drawer(14)
    told = [table for table, rank_due, determinant_due in KNOWN]
    for size in range(1, 5):
        for often in range(40):
            told.append(drawn(draw, size, -1, 1))
            told.append(drawn(draw, size, -5, 5))
            told.append(drawn(draw, size, 1 - LIMIT, LIMIT - 1))
            told.append(times(drawn(draw, size, -2, 2), drawn(draw, size, -1, 1)))
            rows = [list(row) for row in drawn(draw, size, -9, 9)]
            for k in range(draw.randint(0, size - 1), size):
                rows[k] = [draw.randint(-3, 3) * number for number in rows[0]]
            told.append(shut(rows))
    return told


class TestRank(unittest.TestCase):

    def test_worked_out_by_hand(self):
        for table, due, other in KNOWN:
            self.assertEqual(kinds_in(rank(table)), (int, due), table)

    def test_against_rows_made_step_shaped_by_fractions(self):
        for table in some_tables():
            self.assertEqual(rank(table), len(step_shaped(table)), table)

    def test_rows_and_columns_have_the_same(self):
        for table in some_tables():
            self.assertEqual(rank(turned(table)), rank(table))

    def test_what_is_no_table(self):
        refuses_table(self, rank)


class TestDeterminant(unittest.TestCase):

    def test_worked_out_by_hand(self):
        for table, other, due in KNOWN:
            self.assertEqual(kinds_in(determinant(table)), (int, due), table)

    def test_against_all_orders_of_columns(self):
        for table in some_tables():
            self.assertEqual(determinant(table), all_orders_sum(table), table)

    def test_nought_just_where_the_rank_is_less_than_the_size(self):
        for table in some_tables():
            self.assertEqual(determinant(table) == 0, rank(table) < len(table))

    def test_what_is_no_table(self):
        refuses_table(self, determinant)


class TestLineOf(unittest.TestCase):

    def test_worked_out_by_hand(self):
        for row, due in (
                ((1,), (1,)), ((-1,), (1,)), ((12,), (1,)), ((-(10 ** 99),), (1,)),
                ((2, 4), (1, 2)), ((-2, 4), (1, -2)), ((2, -4), (1, -2)), ((-2, -4), (1, 2)), ((6, 4), (3, 2)),
                ((0, -7), (0, 1)), ((7, 0), (1, 0)), ((-7, 0), (1, 0)), ((3, 5), (3, 5)), ((-3, 5), (3, -5)),
                ((0, 0, -9), (0, 0, 1)), ((0, -6, 9), (0, 2, -3)), ((6, 10, 15), (6, 10, 15)),
                ((-6, 10, 15), (6, -10, -15)), ((4, 6, 9), (4, 6, 9)), ((4, 6, 8), (2, 3, 4)),
                ((0, 0, 0, 5), (0, 0, 0, 1)), ((0, 0, -4, 6), (0, 0, 2, -3)), ((30, 42, 70, 105), (30, 42, 70, 105)),
                ((-30, 42, 70, 100), (15, -21, -35, -50)), ((HUGE, -2 * HUGE), (1, -2)), ((0, HUGE), (0, 1)),
                ((-HUGE, 1), (HUGE, -1)), ((3 * HUGE, 0, 6, -9), (HUGE, 0, 2, -3))):
            self.assertEqual(kinds_in(line_of(row)), kinds_in(due), row)

    def test_none_of_noughts(self):
        for size in range(1, 5):
            self.assertIsNone(line_of((0,) * size))

    def test_all_small_rows(self):
        for size in range(1, 5):
            for row in itertools.product(range(-3, 4), repeat=size):
                line = line_of(row)
                if not any(row):
                    self.assertIsNone(line)
                    continue
                self.assertEqual(math.gcd(*line), 1)
                self.assertGreater([number for number in line if number][0], 0)
                often = math.gcd(*row) * (1 if row > (0,) * size else -1)
                self.assertEqual(tuple([often * number for number in line]), row)

    def test_a_line_is_its_own(self):
        for row in itertools.product(range(-3, 4), repeat=3):
            line = line_of(row)
            if line is not None:
                self.assertEqual(line_of(line), line)
                self.assertEqual(line_of(tuple([-5 * number for number in row])), line)


class TestLost(unittest.TestCase):

    def test_worked_out_by_hand(self):
        for table, due in LOSING:
            self.assertEqual(kinds_in(lost(table)), kinds_in(due), table)

    def looked_at(self, table):
        """What is told by the words of 1.4, which leave just one list."""
        size = len(table)
        lines = lost(table)
        leads = leading_columns(turned(table))
        others = [column for column in range(size) if column not in leads]
        self.assertIs(type(lines), list)
        self.assertEqual(len(lines), len(others), table)
        for at, line in enumerate(lines):
            self.assertIs(type(line), tuple)
            self.assertEqual(len(line), size)
            self.assertEqual(line_of(line), line)
            self.assertEqual(row_led(line, table), (0,) * size, table)
            for column in others:
                self.assertEqual(line[column] != 0, column == others[at], table)

    def test_by_the_words_of_the_point(self):
        for table in some_tables():
            self.assertEqual(len(lost(table)), len(table) - rank(table))
            self.looked_at(table)

    def test_all_small_tables_of_two_rows(self):
        for numbers in itertools.product(range(-2, 3), repeat=4):
            self.looked_at((numbers[:2], numbers[2:]))

    def test_all_marks_of_three_rows(self):
        for numbers in itertools.product(range(2), repeat=9):
            self.looked_at((numbers[:3], numbers[3:6], numbers[6:]))

    def test_none_where_the_rank_is_the_size(self):
        for table, due, other in KNOWN:
            if due == len(table):
                self.assertEqual(kinds_in(lost(table)), kinds_in([]))

    def test_the_list_is_new_each_time(self):
        for table in (((0,),), ((2, 3), (4, 6)), THREE, FOUR, TWO, ((0, 0), (0, 0))):
            one = lost(table)
            due = list(one)
            one.append("more")
            one[0] = None
            self.assertEqual(lost(table), due)
            self.assertIsNot(lost(table), lost(table))

    def test_what_is_no_table(self):
        refuses_table(self, lost)


class TestProducts(unittest.TestCase):

    def pairs(self):
        draw = drawer(15)
        for size in range(1, 5):
            tables = [table for table in some_tables() if len(table) == size]
            for often in range(60):
                yield draw.choice(tables), draw.choice(tables), draw.choice(tables)

    def test_three_tables_by_whatever_two_is_begun(self):
        for one, other, third in self.pairs():
            self.assertEqual(product(product(one, other), third), product(one, product(other, third)))

    def test_turned_a_product_is_that_of_the_turned_ones_from_behind(self):
        for one, other, third in self.pairs():
            self.assertEqual(turned(product(one, other)), product(turned(other), turned(one)))

    def test_the_determinant_of_a_product(self):
        for one, other, third in self.pairs():
            self.assertEqual(determinant(product(one, other)), determinant(one) * determinant(other))

    def test_the_rank_of_a_product(self):
        for one, other, third in self.pairs():
            self.assertLessEqual(rank(product(one, other)), min(rank(one), rank(other)))

    def test_each_lost_line_is_led_to_nought(self):
        for one, other, third in self.pairs():
            for table in (one, product(one, other), product(product(one, other), third)):
                for line in lost(table):
                    self.assertFalse(any(row_led(line, table)))

    def test_what_one_loses_the_product_loses(self):
        for one, other, third in self.pairs():
            for line in lost(one):
                self.assertFalse(any(row_led(line, product(one, other))))


if __name__ == "__main__":
    unittest.main()
