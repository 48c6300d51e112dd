"""1.2: what tables handed in are; tables_wrong, and the numbers that NoTables bears."""

import unittest

from helper import FOUR, GREAT, LIMIT, ONE, THREE, TWO, no_tables_at_all, refusal, whatever
from noughtways.errors import NoTables
from noughtways.tables import along, tables_wrong


class TestTablesWrong(unittest.TestCase):

    def tells(self, told, thing):
        """The answer of tables_wrong and, of what has no numbers beyond, that of a refusal."""
        self.says(told, thing)
        if told is not None:
            self.refuses(told, thing)

    def says(self, told, thing):
        answer = tables_wrong(thing)
        self.assertEqual(answer, told, thing)
        self.assertIs(type(answer), type(told))

    def refuses(self, at, thing):
        error = refusal(self, NoTables, along, thing, (0,))
        self.assertEqual(error.at, at, thing)
        self.assertIs(type(error.at), int)

    def test_none_where_they_are_tables(self):
        for table in (ONE, TWO, THREE, FOUR):
            for many in range(1, 5):
                self.tells(None, [table] * many)
        self.tells(None, [TWO, ((0, 0), (0, 0)), ((-5, 1), (1, 1 - LIMIT))])

    def test_no_list(self):
        for thing in (None, True, 0, "", "tables", (), (TWO,), (TWO, TWO), TWO, {}, {0: TWO}):
            self.tells(-1, thing)

    def test_no_things_and_five_things(self):
        self.tells(-1, [])
        self.tells(-1, [TWO] * 5)
        self.tells(-1, [TWO] * 6)
        self.tells(-1, [None] * 5)
        self.tells(-1, [TWO, TWO, TWO, TWO, None])
        self.tells(-1, [None, TWO, TWO, TWO, TWO])

    def test_whatever_is_handed_in(self):
        for thing in whatever():
            fits = isinstance(thing, list) and 1 <= len(thing) <= 4
            self.tells(0 if fits else -1, thing)

    def test_each_place(self):
        for thing in no_tables_at_all() + [ONE, THREE, FOUR]:
            for many in range(2, 5):
                for at in range(1, many):
                    tables = [TWO] * many
                    tables[at] = thing
                    self.tells(at, tables)

    def test_the_first_thing_is_none(self):
        for thing in no_tables_at_all():
            for many in range(1, 5):
                self.tells(0, [thing] + [TWO] * (many - 1))
                self.tells(0, [thing] * many)

    def test_size_is_that_of_the_first_one(self):
        self.tells(1, [ONE, TWO, TWO, TWO])
        self.tells(1, [TWO, ONE])
        self.tells(3, [FOUR, FOUR, FOUR, THREE])
        self.tells(2, [THREE, THREE, FOUR, THREE])

    def test_the_first_wrong_one_is_told(self):
        self.tells(1, [TWO, None, THREE])
        self.tells(1, [TWO, THREE, None])
        self.tells(2, [TWO, TWO, ((True, 0), (0, 0)), ONE])
        self.tells(2, [TWO, TWO, ONE, ((True, 0), (0, 0))])
        self.tells(0, [None, TWO, THREE])
        self.tells(0, [[], None])

    def test_numbers_beyond_are_told_by_tables_wrong(self):
        for number in (LIMIT, -LIMIT, 10 ** 99):
            great = ((0, 0), (number, 0))
            for many in range(1, 5):
                for at in range(many):
                    tables = [TWO] * many
                    tables[at] = great
                    self.says(at, tables)
        self.says(0, [GREAT, None])
        self.says(1, [TWO, GREAT, THREE])
        self.says(1, [TWO, THREE, GREAT])
        self.says(-1, [GREAT] * 5)

    def test_numbers_beyond_are_let_by_elsewhere(self):
        self.refuses(1, [GREAT, None])
        self.refuses(2, [TWO, GREAT, THREE])
        self.refuses(3, [GREAT, GREAT, GREAT, ONE])
        self.refuses(1, [GREAT, ((10 ** 20,),)])
        self.refuses(-1, [GREAT] * 5)
        self.refuses(-1, (GREAT,))
        self.assertEqual(along([TWO, GREAT], (1, 0)), ((LIMIT, 2 * LIMIT), (3, 4)))
        self.assertEqual(along([GREAT] * 4, (3,)), GREAT)


if __name__ == "__main__":
    unittest.main()
