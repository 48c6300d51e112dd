"""1.3: product, is_nought and turned."""

import unittest

from helper import FOUR, GREAT, LIMIT, ONE, THREE, TWO, no_tables_at_all, refusal, shut
from noughtways.errors import NoTable
from noughtways.tables import is_nought, product, turned

OTHER_THREE = ((1, 0, -1), (2, 1, 0), (0, 3, 1))
OTHER_FOUR = ((1, 0, 0, 2), (0, -1, 0, 0), (0, 0, 3, 0), (1, 0, 0, 0))
CASES = [
    (((7,),), ((6,),), ((42,),)),
    (((-7,),), ((6,),), ((-42,),)),
    (TWO, ((5, 6), (7, 8)), ((19, 22), (43, 50))),
    (((5, 6), (7, 8)), TWO, ((23, 34), (31, 46))),
    (((-1, 2), (3, -4)), ((5, -6), (-7, 8)), ((-19, 22), (43, -50))),
    (((0, 1), (0, 0)), ((0, 1), (0, 0)), ((0, 0), (0, 0))),
    (((0, 1), (0, 0)), ((0, 0), (1, 0)), ((1, 0), (0, 0))),
    (THREE, OTHER_THREE, ((5, 11, 2), (14, 23, 2), (23, 35, 2))),
    (OTHER_THREE, THREE, ((-6, -6, -6), (6, 9, 12), (19, 23, 27))),
    (FOUR, OTHER_FOUR, ((5, -2, 9, 2), (13, -6, 21, 10), (21, -10, 33, 18), (29, -14, 45, 26))),
    (OTHER_FOUR, FOUR, ((27, 30, 33, 36), (-5, -6, -7, -8), (27, 30, 33, 36), (1, 2, 3, 4))),
    (((LIMIT - 1,),), ((LIMIT - 1,),), ((10 ** 24 - 2 * 10 ** 12 + 1,),)),
    (((10 ** 11, 1), (-(10 ** 11), 0)), ((10 ** 11, 0), (1, -(10 ** 11))),
     ((10 ** 22 + 1, -(10 ** 11)), (-(10 ** 22), 0))),
    (GREAT, GREAT, ((10 ** 24, 0), (0, 1))),
]


def ones(size):
    return tuple([tuple([int(i == j) for j in range(size)]) for i in range(size)])


class TestProduct(unittest.TestCase):

    def test_sums_worked_out_by_hand(self):
        for one, other, told in CASES:
            self.assertEqual(product(one, other), told)

    def test_what_is_told_is_a_tuple_of_tuples_of_whole_numbers(self):
        for one, other, told in CASES:
            table = product(one, other)
            self.assertIs(type(table), tuple)
            for row in table:
                self.assertIs(type(row), tuple)
                self.assertEqual({type(number) for number in row}, {int})

    def test_each_place_is_drawn_from_the_ones_row_and_the_others_column(self):
        for size in range(1, 5):
            for i in range(size):
                for k in range(size):
                    for j in range(size):
                        one = [[0] * size for row in range(size)]
                        other = [[0] * size for row in range(size)]
                        due = [[0] * size for row in range(size)]
                        one[i][k], other[k][j], due[i][j] = 3, -5, -15
                        self.assertEqual(product(shut(one), shut(other)), shut(due))

    def test_the_table_of_ones_changes_nothing(self):
        for table in (ONE, TWO, THREE, FOUR, GREAT):
            self.assertEqual(product(table, ones(len(table))), table)
            self.assertEqual(product(ones(len(table)), table), table)

    def test_what_is_no_table_on_either_side(self):
        for thing in no_tables_at_all():
            refusal(self, NoTable, product, thing, TWO)
            refusal(self, NoTable, product, TWO, thing)
            refusal(self, NoTable, product, thing, thing)

    def test_unlike_sizes(self):
        for one in (ONE, TWO, THREE, FOUR, GREAT):
            for other in (ONE, TWO, THREE, FOUR, GREAT):
                if len(one) != len(other):
                    refusal(self, NoTable, product, one, other)

    def test_a_list_of_tables_is_no_table(self):
        refusal(self, NoTable, product, [TWO], TWO)
        refusal(self, NoTable, product, TWO, [TWO])


class TestIsNought(unittest.TestCase):

    def test_noughts_alone(self):
        for size in range(1, 5):
            self.assertIs(is_nought(((0,) * size,) * size), True)

    def test_one_other_number_anywhere(self):
        for size in range(1, 5):
            for i in range(size):
                for j in range(size):
                    for number in (1, -1, LIMIT, -(10 ** 99)):
                        rows = [[0] * size for k in range(size)]
                        rows[i][j] = number
                        self.assertIs(is_nought(shut(rows)), False)

    def test_numbers_that_come_to_nought_together(self):
        self.assertIs(is_nought(((1, -1), (-1, 1))), False)
        self.assertIs(is_nought(((1, 1), (-1, -1))), False)

    def test_what_is_no_table(self):
        for thing in no_tables_at_all() + [[TWO], [((0,),)]]:
            refusal(self, NoTable, is_nought, thing)


class TestTurned(unittest.TestCase):

    def test_rows_are_columns(self):
        self.assertEqual(turned(ONE), ONE)
        self.assertEqual(turned(TWO), ((1, 3), (2, 4)))
        self.assertEqual(turned(((0, -1), (10 ** 30, 0))), ((0, 10 ** 30), (-1, 0)))
        self.assertEqual(turned(THREE), ((1, 4, 7), (2, 5, 8), (3, 6, 9)))
        self.assertEqual(turned(FOUR), ((1, 5, 9, 13), (2, 6, 10, 14), (3, 7, 11, 15), (4, 8, 12, 16)))

    def test_what_is_told_is_a_tuple_of_tuples(self):
        for table in (ONE, TWO, THREE, FOUR):
            self.assertIs(type(turned(table)), tuple)
            self.assertEqual({type(row) for row in turned(table)}, {tuple})

    def test_what_is_no_table(self):
        for thing in no_tables_at_all() + [[TWO], ((1, 2, 3), (4, 5, 6))]:
            refusal(self, NoTable, turned, thing)


if __name__ == "__main__":
    unittest.main()
