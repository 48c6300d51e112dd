"""0.3, 1.1: what a whole number and a table is; is_table."""

import unittest

from helper import FOUR, LIMIT, ONE, THREE, TWO, no_tables_at_all
from noughtways.tables import is_table


class TestIsTable(unittest.TestCase):

    def tells(self, told, thing):
        self.assertIs(is_table(thing), told, thing)

    def test_sizes_one_to_four(self):
        for table in (ONE, TWO, THREE, FOUR):
            self.tells(True, table)

    def test_noughts_and_numbers_below(self):
        for size in range(1, 5):
            self.tells(True, ((0,) * size,) * size)
            self.tells(True, ((-3,) * size,) * size)

    def test_size_nought_and_five(self):
        self.tells(False, ())
        self.tells(False, ((),))
        self.tells(False, ((1,) * 5,) * 5)
        self.tells(False, ((1,) * 4,) * 5)
        self.tells(False, ((1,) * 5,) * 4)

    def test_rows_longer_and_shorter(self):
        for size in range(1, 5):
            for wrong in range(size):
                for length in (size - 1, size + 1):
                    rows = [(1,) * size] * size
                    rows[wrong] = (1,) * length
                    self.tells(False, tuple(rows))
            self.tells(False, ((1,) * (size + 1),) * size)
            self.tells(False, ((1,) * (size - 1),) * size)

    def test_lists_in_the_place_of_tuples(self):
        self.tells(False, [(1, 2), (3, 4)])
        self.tells(False, ([1, 2], [3, 4]))
        self.tells(False, ([1, 2], (3, 4)))
        self.tells(False, ((1, 2), [3, 4]))
        self.tells(False, [[1, 2], [3, 4]])

    def test_other_things_than_whole_numbers_at_each_place(self):
        for size in range(1, 5):
            for i in range(size):
                for j in range(size):
                    for thing in (True, False, None, "1", "", (), (1,), [], [1], {}):
                        rows = [[1] * size for k in range(size)]
                        rows[i][j] = thing
                        self.tells(False, tuple([tuple(row) for row in rows]))

    def test_bounds_at_each_place(self):
        for size in range(1, 5):
            for i in range(size):
                for j in range(size):
                    for number, told in (
                            (LIMIT, False), (-LIMIT, False), (LIMIT - 1, True), (1 - LIMIT, True),
                            (LIMIT + 1, False), (-LIMIT - 1, False), (10 ** 99, False), (-(10 ** 99), False)):
                        rows = [[1] * size for k in range(size)]
                        rows[i][j] = number
                        self.tells(told, tuple([tuple(row) for row in rows]))

    def test_whatever_is_handed_in(self):
        for thing in no_tables_at_all():
            self.tells(False, thing)

    def test_a_list_of_tables_is_no_table(self):
        self.tells(False, [TWO])
        self.tells(False, (TWO,))


if __name__ == "__main__":
    unittest.main()
