"""3.1: all_nought and first_left; 3.2: stair_of; 3.4: a stair or a way left, just one of both."""

import itertools
import unittest

from helper import FOUR, GREAT, LIMIT, ONE, THREE, TWO, drawer, drawn, fading, kinds_in, marked, refuses_tables
from helper import times, units, way_product, ways_of
from noughtways.allways import all_nought, first_left, stair_holds, stair_of
from noughtways.ranks import line_of
from noughtways.tables import along
from test_stairs import shows

RIGHT = ((0, 1), (0, 0))
LEFT = ((0, 0), (1, 0))
FALL = ((0, 1, 0, 0), (0, 0, 1, 0), (0, 0, 0, 1), (0, 0, 0, 0))

# Each with the first way left, worked out by hand.
KNOWN = [
    ([((0,),)], None), ([((0,),)] * 4, None), ([ONE], (0,)), ([((0,),), ((-1,),)], (1,)),
    ([((0,),), ((0,),), ((0,),), ((10 ** 99,),)], (3,)),
    ([((0, 0), (0, 0))], None), ([RIGHT], None), ([LEFT] * 4, None), ([RIGHT, LEFT], (0, 1)),
    ([LEFT, RIGHT], (0, 1)), ([RIGHT, RIGHT, LEFT], (0, 2)), ([TWO], (0, 0)), ([RIGHT, TWO], (0, 1)),
    ([((0, 0), (0, 0)), RIGHT, ((0, 0), (0, 1))], (1, 2)), ([((0, 0), (0, 0)), ((0, 0), (0, 1))], (1, 1)),
    ([((1, -1), (1, -1))], None), ([((1, -1), (1, -1)), ((2, -2), (2, -2))], None),
    ([((1, -1), (1, -1)), ((1, 1), (-1, -1))], (0, 1)), ([((2, 4), (-1, -2))], None), ([((2, 4), (-1, -3))], (0, 0)),
    ([((0, 10 ** 99), (0, 0))], None), ([GREAT], (0, 0)),
    ([((0, 5, 7), (0, 0, -3), (0, 0, 0))], None), ([((0, 5, 7), (0, 0, -3), (0, 0, 1))], (0, 0, 0)),
    ([((0, 1, 0), (0, 0, 0), (0, 0, 0)), ((0, 0, 0), (0, 0, 1), (0, 0, 0)), ((0, 0, 0), (0, 0, 0), (1, 0, 0))],
     (0, 1, 2)),
    ([((0, 0, 0), (0, 0, 0), (1, 0, 0)), ((0, 0, 0), (0, 0, 1), (0, 0, 0)), ((0, 1, 0), (0, 0, 0), (0, 0, 0))],
     (0, 2, 1)),
    ([THREE], (0, 0, 0)), ([FALL], None), ([FALL] * 4, None), ([FALL, FOUR], (0, 0, 0, 1)),
    ([FALL, marked(FALL, 3, 0, 1)], (0, 0, 0, 1)), ([FALL, marked(FALL, 2, 2, 1)], (0, 0, 1, 0)),
]


def first_by_all(tables):
    size = len(tables[0])
    for way in ways_of(len(tables), size):
        if any(any(row) for row in way_product(tables, way)):
            return way
    return None


def some_lists():
    """Lists of tables of all sizes: such that all their ways come to nought, such with one number more, others."""
    draw = drawer(31)
    told = [tables for tables, way in KNOWN]
    for size in range(1, 5):
        for often in range(25):
            tables = fading(draw, size, draw.randint(1, 4))
            told.append(tables)
            at, i, j = draw.randrange(len(tables)), draw.randrange(size), draw.randrange(size)
            told.append(list(tables))
            told[-1][at] = marked(tables[at], i, j, tables[at][i][j] + draw.choice((-1, 1, 7)))
            told.append([drawn(draw, size, 0, 1) for at in range(draw.randint(1, 3))])
            told.append([drawn(draw, size, -1, 1) for at in range(draw.randint(1, 2))])
            told.append([times(drawn(draw, size, -1, 1), fading(draw, size, 1)[0])])
    return told


class TestFirstLeft(unittest.TestCase):

    def test_worked_out_by_hand(self):
        for tables, due in KNOWN:
            self.assertEqual(kinds_in(first_left(tables)), kinds_in(due), tables)
            self.assertIs(all_nought(tables), due is None)

    def test_against_all_ways_gone_through(self):
        ended = 0
        for tables in some_lists():
            due = first_by_all(tables)
            ended += due is None
            self.assertEqual(first_left(tables), due, tables)
            self.assertIs(all_nought(tables), due is None, tables)
        self.assertGreater(ended, 100)
        self.assertGreater(len(some_lists()) - ended, 100)

    def test_each_number_more(self):
        draw = drawer(32)
        for size in range(1, 5):
            tables = fading(draw, size, 2)
            self.assertIs(all_nought(tables), True)
            for at, i, j in itertools.product(range(2), range(size), range(size)):
                more = list(tables)
                more[at] = marked(tables[at], i, j, tables[at][i][j] + 3)
                self.assertEqual(first_left(more), first_by_all(more))

    def test_where_all_come_to_nought_so_do_longer_ways(self):
        draw = drawer(33)
        for size in range(1, 4):
            tables = fading(draw, size, 2)
            for way in ways_of(2, size) + ways_of(2, size + 1) + ways_of(2, size + 3):
                self.assertFalse(any(any(row) for row in along(tables, way)))

    def test_tables_that_were_told(self):
        great = along([((LIMIT - 1, 5), (3, LIMIT - 2))], (0,) * 200)
        self.assertEqual(first_left([RIGHT, great]), (0, 1))
        nil = times(times(great, RIGHT), ((great[1][1], -great[0][1]), (-great[1][0], great[0][0])))
        self.assertIs(all_nought([nil]), True)
        self.assertIsNone(first_left([nil, nil]))
        self.assertEqual(first_left([nil, RIGHT]), (0, 1))

    def test_no_tables(self):
        refuses_tables(self, first_left)
        refuses_tables(self, all_nought)


class TestStairOf(unittest.TestCase):

    def test_told_just_where_all_ways_come_to_nought(self):
        for tables in some_lists():
            stair = stair_of(tables)
            if first_by_all(tables) is not None:
                self.assertIsNone(stair)
                continue
            self.assertIs(type(stair), list)
            for lines in stair:
                self.assertIs(type(lines), list)
                for line in lines:
                    self.assertIs(type(line), tuple)
                    self.assertEqual(kinds_in(line_of(line)), kinds_in(line))
            self.assertTrue(shows(tables, stair), tables)
            self.assertIs(stair_holds(tables, stair), True, tables)

    def test_just_one_of_both(self):
        for tables in some_lists():
            self.assertEqual(stair_of(tables) is None, first_left(tables) is not None)

    def test_behind_so_many_places_as_there_are_lists_nothing_is_left(self):
        for tables in some_lists():
            stair = stair_of(tables)
            if stair is not None:
                for way in ways_of(len(tables), len(stair)):
                    self.assertFalse(any(any(row) for row in way_product(tables, way)))

    def test_the_lists_are_the_askers_own(self):
        for tables in ([((0,),)], [RIGHT], [FALL, FALL], [((1, -1), (1, -1))]):
            due = stair_of(tables)
            due = [list(lines) for lines in due]
            told = stair_of(tables)
            told[0].append("more")
            told[-1].clear()
            told.append([])
            self.assertEqual(stair_of(tables), due)
            told = stair_of(tables)
            for lines in told:
                lines.append(lines)
            self.assertEqual(stair_of(tables), due)

    def test_tables_that_were_told(self):
        high = 10 ** 700
        tables = [((high, -high * high), (1, -high)), ((5 * high, -5 * high * high), (5, -5 * high))]
        self.assertIs(stair_holds(tables, stair_of(tables)), True)
        self.assertIsNone(stair_of(tables + [RIGHT]))

    def test_no_tables(self):
        refuses_tables(self, stair_of)


class TestStairAndWayLeft(unittest.TestCase):

    def test_where_there_is_a_way_left_no_paper_shows_otherwise(self):
        draw = drawer(34)
        for tables in some_lists():
            if first_left(tables) is not None:
                size = len(tables[0])
                for paper in ([units(size)], [units(size)] * size, [units(size)[k:] for k in range(size)],
                              stair_of(fading(draw, size, 2)), [units(size)] + [[]] * (size - 1)):
                    self.assertIs(stair_holds(tables, paper), False)


if __name__ == "__main__":
    unittest.main()
