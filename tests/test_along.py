"""1.3: along, and what a way is; 1.2: NoTables ahead of NoWay."""

import unittest

from helper import FOUR, GREAT, ONE, THREE, TWO, kinds_in, no_tables_at_all, refusal, whatever
from noughtways.errors import NoTables, NoWay
from noughtways.tables import along

RIGHT = ((0, 1), (0, 0))
LEFT = ((0, 0), (1, 0))
STEP = ((1, 1), (0, 1))
LOW = ((1, 0), (1, 1))


class TestAlong(unittest.TestCase):

    def test_ways_of_one_place(self):
        tables = [TWO, RIGHT, LEFT, STEP]
        for place in range(4):
            self.assertEqual(along(tables, (place,)), tables[place])
        for table in (ONE, TWO, THREE, FOUR, GREAT):
            self.assertEqual(along([table], (0,)), table)

    def test_the_order_matters(self):
        self.assertEqual(along([STEP, LOW], (0, 1)), ((2, 1), (1, 1)))
        self.assertEqual(along([STEP, LOW], (1, 0)), ((1, 1), (1, 2)))
        self.assertEqual(along([TWO, RIGHT], (0, 1)), ((0, 1), (0, 3)))
        self.assertEqual(along([TWO, RIGHT], (1, 0)), ((3, 4), (0, 0)))

    def test_several_places(self):
        self.assertEqual(along([STEP, LOW], (0, 0, 1)), ((3, 2), (1, 1)))
        self.assertEqual(along([STEP, LOW], (0, 1, 0)), ((2, 3), (1, 2)))
        self.assertEqual(along([STEP, LOW], (1, 0, 0)), ((1, 2), (1, 3)))
        self.assertEqual(along([RIGHT, LEFT], (0, 1, 0, 1)), ((1, 0), (0, 0)))
        self.assertEqual(along([RIGHT, LEFT], (0, 1, 1)), ((0, 0), (0, 0)))
        self.assertEqual(along([ONE, ((-2,),), ((3,),), ((10,),)], (3, 1, 0, 2, 1)), ((840,),))

    def test_threes_and_fours(self):
        shift = ((0, 1, 0), (0, 0, 1), (1, 0, 0))
        self.assertEqual(along([THREE, shift], (1, 0, 1)), ((6, 4, 5), (9, 7, 8), (3, 1, 2)))
        self.assertEqual(along([shift], (0, 0, 0)), ((1, 0, 0), (0, 1, 0), (0, 0, 1)))
        fall = ((0, 1, 0, 0), (0, 0, 1, 0), (0, 0, 0, 1), (0, 0, 0, 0))
        self.assertEqual(along([fall, FOUR], (0, 1)), FOUR[1:] + ((0, 0, 0, 0),))
        self.assertEqual(along([fall], (0, 0, 0))[0], (0, 0, 0, 1))
        self.assertEqual(along([fall], (0, 0, 0, 0)), ((0, 0, 0, 0),) * 4)

    def test_two_hundred_places(self):
        self.assertEqual(along([STEP, LOW], (0,) * 200), ((1, 200), (0, 1)))
        self.assertEqual(along([STEP, LOW], (1,) + (0,) * 199), ((1, 199), (1, 200)))
        self.assertEqual(along([((-(10 ** 11),),)], (0,) * 200), ((10 ** 2200,),))

    def refused(self, tables, way):
        refusal(self, NoWay, along, tables, way)

    def test_no_places_and_too_many(self):
        for tables in ([TWO], [ONE] * 4):
            self.refused(tables, ())
            self.refused(tables, (0,) * 201)
            self.refused(tables, (0,) * 500)

    def test_places_beyond_and_below(self):
        for many in range(1, 5):
            tables = [TWO] * many
            for place in (many, many + 1, 10 ** 99, -1, -many, -(10 ** 99)):
                self.refused(tables, (place,))
                self.refused(tables, (0, place))
                self.refused(tables, (place, 0))
                self.refused(tables, (0,) * 199 + (place,))
            self.assertEqual(along(tables, (many - 1,)), TWO)

    def test_what_is_no_place(self):
        for thing in (True, False, None, "0", "", (), (0,), [], [0], {}, {0: 0}):
            self.refused([TWO, STEP], (thing,))
            self.refused([TWO, STEP], (0, thing, 1))
            self.refused([TWO, STEP], (0, 1, thing))

    def test_what_is_no_tuple(self):
        for thing in ([0], [0, 0], {0: 0}, "0", 0, True, False, None):
            self.refused([TWO, STEP], thing)

    def test_whatever_is_handed_in_for_the_way(self):
        for thing in no_tables_at_all():
            if kinds_in(thing) != kinds_in((1,)):
                self.refused([TWO, STEP], thing)
        for table in (ONE, TWO, THREE, FOUR, GREAT):
            self.refused([TWO, STEP], table)
            self.refused([TWO, STEP], [table])

    def test_tables_are_looked_at_ahead_of_the_way(self):
        for tables, at in (
                (None, -1), ((TWO,), -1), ([], -1), ([TWO] * 5, -1), ([None], 0), ([TWO, 3], 1),
                ([TWO, THREE, None], 1), ([GREAT, GREAT, None], 2), ([TWO, TWO, TWO, ONE], 3)):
            for way in whatever() + [(0,), (9,), (0,) * 201]:
                self.assertEqual(refusal(self, NoTables, along, tables, way).at, at)


if __name__ == "__main__":
    unittest.main()
