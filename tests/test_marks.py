"""9.1: all_marks, mark_of; 9.2: fading, fading_many; 9.4: alike_marks, kinds_many."""

import itertools
import unittest

from helper import FOUR, GREAT, ONE, THREE, TWO, below, drawer, drawn, kinds_in, marked, nought, refusal
from helper import refuses_table, shut, times, way_product, ways_of
from noughtways.counts import always_from
from noughtways.errors import NoTable
from noughtways.marks import all_marks, alike_marks, fading, fading_many, kinds_many, mark_of
from noughtways.signs import sign_way
from noughtways.tables import along

MARKS_OF_TWO = [
    ((0, 0), (0, 0)), ((0, 0), (0, 1)), ((0, 0), (1, 0)), ((0, 0), (1, 1)),
    ((0, 1), (0, 0)), ((0, 1), (0, 1)), ((0, 1), (1, 0)), ((0, 1), (1, 1)),
    ((1, 0), (0, 0)), ((1, 0), (0, 1)), ((1, 0), (1, 0)), ((1, 0), (1, 1)),
    ((1, 1), (0, 0)), ((1, 1), (0, 1)), ((1, 1), (1, 0)), ((1, 1), (1, 1)),
]
KINDS_OF_TWO = [
    [((0, 0), (0, 0))], [((0, 0), (0, 1)), ((1, 0), (0, 0))], [((0, 0), (1, 0)), ((0, 1), (0, 0))],
    [((0, 0), (1, 1)), ((1, 1), (0, 0))], [((0, 1), (0, 1)), ((1, 0), (1, 0))], [((0, 1), (1, 0))],
    [((0, 1), (1, 1)), ((1, 1), (1, 0))], [((1, 0), (0, 1))], [((1, 0), (1, 1)), ((1, 1), (0, 1))],
    [((1, 1), (1, 1))],
]


def renumbered(mark, numbers):
    """The mark in which the place k is called numbers[k]."""
    rows = [[0] * len(mark) for row in mark]
    for i, j in itertools.product(range(len(mark)), repeat=2):
        rows[numbers[i]][numbers[j]] = mark[i][j]
    return shut(rows)


def powers(mark, most):
    told = [mark]
    while len(told) < most:
        told.append(times(told[-1], mark))
    return told


class TestAllMarks(unittest.TestCase):

    def test_written_out(self):
        self.assertEqual(kinds_in(all_marks(1)), kinds_in([((0,),), ((1,),)]))
        self.assertEqual(kinds_in(all_marks(2)), kinds_in(MARKS_OF_TWO))

    def test_all_of_three_rising(self):
        told = all_marks(3)
        self.assertEqual(len(told), 512)
        self.assertEqual(told, sorted(set(told)))
        for mark in told:
            self.assertEqual(kinds_in(mark), kinds_in(shut(mark)))
            self.assertEqual([len(row) for row in mark], [3, 3, 3])
            self.assertLessEqual({number for row in mark for number in row}, {0, 1})
        self.assertEqual(told[0], nought(3))
        self.assertEqual(told[1], ((0, 0, 0), (0, 0, 0), (0, 0, 1)))
        self.assertEqual(told[511], ((1, 1, 1), (1, 1, 1), (1, 1, 1)))

    def test_the_list_is_the_askers_own(self):
        for call in (all_marks, fading):
            due = call(2)
            told = call(2)
            told[0] = None
            told.append(1)
            self.assertEqual(call(2), due)


class TestMarkOf(unittest.TestCase):

    def test_worked_out_by_hand(self):
        for table, due in (
                (ONE, ((1,),)), (((0,),), ((0,),)), (TWO, ((1, 1), (1, 1))), (GREAT, ((1, 0), (0, 1))),
                (((0, 5), (1, 0)), ((0, 1), (1, 0))), (((10 ** 99, 0), (0, 0)), ((1, 0), (0, 0))),
                (((0, 1, 2), (3, 0, 4), (0, 0, 9)), ((0, 1, 1), (1, 0, 1), (0, 0, 1))), (FOUR, ((1,) * 4,) * 4)):
            self.assertEqual(kinds_in(mark_of(table)), kinds_in(due), table)

    def test_a_mark_is_its_own(self):
        for size in (1, 2, 3):
            for mark in all_marks(size):
                self.assertEqual(kinds_in(mark_of(mark)), kinds_in(mark))

    def test_no_table(self):
        refuses_table(self, mark_of)

    def test_below(self):
        for table in (ONE, TWO, THREE, FOUR, GREAT):
            for i, j in itertools.product(range(len(table)), repeat=2):
                below(self, 0, mark_of, marked(table, i, j, -1))
                below(self, 0, mark_of, marked(table, i, j, -(10 ** 99)))

    def test_no_table_ahead_of_below(self):
        low = ((-1, 2), (3, 4))
        for thing in ([low], low + low, (low,), [list(row) for row in low], low[:1], (low[0], (3, True))):
            refusal(self, NoTable, mark_of, thing)

    def test_a_way_is_to_nought_just_where_that_of_the_marks_is(self):
        draw = drawer(91)
        for often in range(60):
            size = draw.randint(1, 4)
            tables = [shut([[draw.choice((0, 0, 1, 7)) for k in range(size)] for row in range(size)])
                      for at in range(draw.randint(1, 3))]
            marks = [mark_of(table) for table in tables]
            self.assertEqual(sign_way(marks), sign_way(tables))
            for way in ways_of(len(tables), 3):
                self.assertEqual(way_product(marks, way) == nought(size), way_product(tables, way) == nought(size))
                self.assertEqual(mark_of(way_product(marks, way)), mark_of(way_product(tables, way)))

    def test_a_told_table(self):
        great = along([((10 ** 11, 1), (0, 10 ** 11))], (0,) * 200)
        self.assertEqual(mark_of(great), ((1, 1), (0, 1)))


class TestFading(unittest.TestCase):

    def test_written_out(self):
        self.assertEqual(kinds_in(fading(1)), kinds_in([((0,),)]))
        self.assertEqual(kinds_in(fading(2)), kinds_in([nought(2), ((0, 0), (1, 0)), ((0, 1), (0, 0))]))

    def test_against_powers(self):
        for size in (1, 2, 3):
            due = [mark for mark in all_marks(size) if nought(size) in powers(mark, 9)]
            self.assertEqual(fading(size), due)
        self.assertEqual(len(fading(3)), 25)

    def test_fading_many(self):
        due = [1, 1, 3, 25, 543, 29281, 3781503, 1138779265, 783702329343]
        self.assertEqual(kinds_in([fading_many(size) for size in range(9)]), kinds_in(due))

    def test_as_many_as_there_are(self):
        for size in (1, 2, 3):
            self.assertEqual(fading_many(size), len(fading(size)))

    def test_those_for_which_always_from_tells_a_number(self):
        for size in (1, 2, 3):
            self.assertEqual(fading(size), [mark for mark in all_marks(size) if always_from([mark]) is not None])


class TestAlikeMarks(unittest.TestCase):

    def test_written_out(self):
        self.assertEqual(kinds_in(alike_marks(1)), kinds_in([[((0,),)], [((1,),)]]))
        self.assertEqual(kinds_in(alike_marks(2)), kinds_in(KINDS_OF_TWO))

    def test_those_that_become_one_another(self):
        for size in (1, 2, 3):
            numberings = list(itertools.permutations(range(size)))
            lists = alike_marks(size)
            for alike in lists:
                self.assertEqual(alike, sorted({renumbered(alike[0], numbers) for numbers in numberings}))
            self.assertEqual(sorted(mark for alike in lists for mark in alike), all_marks(size))
            self.assertEqual([alike[0] for alike in lists], sorted(alike[0] for alike in lists))

    def test_kinds_many(self):
        self.assertEqual(kinds_in([kinds_many(size) for size in (1, 2, 3)]), kinds_in([2, 10, 104]))
        for size in (1, 2, 3):
            self.assertEqual(kinds_many(size), len(alike_marks(size)))

    def test_lists_within_the_list_are_the_askers_own(self):
        told = alike_marks(2)
        for alike in told:
            alike.append(None)
            alike[0] = 0
        told.pop()
        self.assertEqual(alike_marks(2), KINDS_OF_TWO)
        self.assertEqual(kinds_many(2), 10)

    def test_each_list_is_fading_wholly_or_not_at_all(self):
        for size in (1, 2, 3):
            faded = fading(size)
            for alike in alike_marks(size):
                self.assertEqual(len({mark in faded for mark in alike}), 1)

    def test_renumbered_marks_have_ways_of_the_same_length(self):
        draw = drawer(92)
        for alike in alike_marks(3):
            self.assertEqual(len({len(sign_way([mark]) or ()) for mark in alike}), 1)
        for often in range(60):
            size = draw.randint(1, 4)
            marks = [drawn(draw, size, 0, 1) for at in range(draw.randint(1, 3))]
            numbers = draw.sample(range(size), size)
            self.assertEqual(sign_way([renumbered(mark, numbers) for mark in marks]), sign_way(marks))


if __name__ == "__main__":
    unittest.main()
