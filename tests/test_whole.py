"""What follows of the points, over all modules: the "so" sentences of 1.5 to 9.5, on one and the same tables."""

import itertools
import unittest
from fractions import Fraction

from helper import GREAT, ONE, THREE, TWO, drawer, drawn, fading, nought, shut, thinned, times, units, ways_of
from noughtways.allways import all_nought, first_left, stair_holds, stair_of
from noughtways.changes import beside, changed, joined, powered, spread, turned_all, undone, way_back
from noughtways.counts import always_from, ever, fresh_many, left_sets, share, way_at, way_number, ways_many
from noughtways.desk import Desk
from noughtways.marks import alike_marks, all_marks, mark_of
from noughtways.orders import order_of, ring_of
from noughtways.ranks import determinant, line_of, lost, rank
from noughtways.rests import barred_by, rest_along, rest_fence, rest_fence_holds, rest_way
from noughtways.rowways import column_holds, column_of, lost_by, lost_in, row_along, row_fence, row_fence_holds
from noughtways.signs import set_along, sets_met, sign_fence, sign_fence_holds, sign_way
from noughtways.small import pair_lengths
from noughtways.tables import along, is_nought, product, tables_wrong, turned
from noughtways.texts import tables_read, tables_shown
from noughtways.twoways import fence_holds, fence_of, line_way, shortest

RIGHT = ((0, 1), (0, 0))
LEFT = ((0, 0), (1, 0))
SWAP = ((0, 1), (1, 0))
UPPER = ((1, 0), (0, 0))


def any_lists():
    """Lists of tables of all sizes, with numbers of any sign."""
    draw = drawer(111)
    told = [[ONE], [((0,),), ONE], [TWO], [RIGHT, LEFT], [SWAP, UPPER], [GREAT, RIGHT], [THREE]]
    for size in range(1, 5):
        for often in range(9):
            many = draw.randint(1, 3)
            told.append([drawn(draw, size, -2, 2) for at in range(many)])
            told.append(fading(draw, size, many))
    return told + plain_lists()


def plain_lists():
    """Lists of tables without a number below 0."""
    draw = drawer(112)
    told = [[ONE], [((0,),), ONE], [TWO], [RIGHT, LEFT], [SWAP, UPPER], [GREAT, RIGHT], [SWAP], [THREE]]
    for size in range(1, 5):
        for often in range(9):
            many = draw.randint(1, 3)
            told.append([drawn(draw, size, 0, 1) for at in range(many)])
            told.append([thinned(draw, size) for at in range(many)])
            told.append([shut([[draw.randint(0, 2) * (j > i) for j in range(size)] for i in range(size)])
                         for at in range(many)])
    return told


def twos():
    return [tables for tables in any_lists() if len(tables[0]) == 2]


def ways(tables, most):
    return [way for places in range(1, most + 1) for way in ways_of(len(tables), places)]


def noughts(tables, most):
    return [way for way in ways(tables, most) if is_nought(along(tables, way))]


def rows_of(tables):
    size = len(tables[0])
    return units(size) + [(1,) * size, (2, -3, 0, 1)[:size]]


class TestTables(unittest.TestCase):

    def test_1_5(self):
        for tables in any_lists():
            for one, other in itertools.product(tables, repeat=2):
                both = product(one, other)
                self.assertEqual(product(both, one), product(one, product(other, one)))
                self.assertEqual(turned(both), product(turned(other), turned(one)))
                self.assertEqual(determinant(both), determinant(one) * determinant(other))
                self.assertLessEqual(rank(both), min(rank(one), rank(other)))
                for line in lost(both):
                    self.assertFalse(any(row_along([both], line, (0,))))
                self.assertEqual(len(lost(both)), len(both) - rank(both))


class TestSigns(unittest.TestCase):

    def test_2_2(self):
        for tables in plain_lists():
            whole = tuple(range(len(tables[0])))
            for way in ways(tables, 3):
                self.assertIs(is_nought(along(tables, way)), set_along(tables, whole, way) == ())
            self.assertEqual(sign_way([mark_of(table) for table in tables]), sign_way(tables))

    def test_2_3(self):
        for tables in plain_lists():
            fence = sign_fence(tables)
            self.assertNotEqual(sign_way(tables) is None, fence is None)
            self.assertEqual(ever(tables), fence is None)
            self.assertIs(sign_fence_holds(tables, sets_met(tables)), fence is not None)
            if fence is not None:
                self.assertEqual(noughts(tables, 3), [])


class TestAllWays(unittest.TestCase):

    def test_3_4(self):
        for tables in any_lists():
            stair = stair_of(tables)
            self.assertNotEqual(stair is None, first_left(tables) is None)
            self.assertEqual(stair is not None, all_nought(tables))
            if stair is None:
                self.assertFalse(is_nought(along(tables, first_left(tables))))
            else:
                self.assertIs(stair_holds(tables, stair), True)
                for way in ways_of(len(tables), len(stair)):
                    self.assertIs(is_nought(along(tables, way)), True)

    def test_3_4_of_an_order(self):
        for tables in plain_lists():
            order = order_of(tables)
            self.assertNotEqual(order is None, ring_of(tables) is None)
            self.assertEqual(order is None, stair_of(tables) is None)
            if order is not None:
                lines = units(len(order))
                stair = [[lines[place] for place in order[at:]] for at in range(len(order))]
                self.assertIs(stair_holds(tables, stair), True)


class TestRests(unittest.TestCase):

    def test_4_4(self):
        for tables in any_lists():
            size = len(tables[0])
            for m in {1: range(2, 8), 2: (2, 3, 4), 3: (2,), 4: ()}[size]:
                way, fence = rest_way(tables, m), rest_fence(tables, m)
                self.assertNotEqual(way is None, fence is None)
                if fence is None:
                    self.assertEqual(rest_along(tables, way, m), nought(size))
                else:
                    self.assertIs(rest_fence_holds(tables, m, fence), True)
                    self.assertEqual(noughts(tables, 3), [])
            for way in noughts(tables, 3):
                for m in range(2, 8):
                    self.assertEqual(rest_along(tables, way, m), nought(size))
            if barred_by(tables) is not None:
                self.assertEqual(noughts(tables, 3), [])


class TestTwoByTwo(unittest.TestCase):

    def test_5_5(self):
        fenced = 0
        for tables in twos():
            fence = fence_of(tables, 60)
            way = shortest(tables, 6)
            if fence is not None:
                fenced += 1
                self.assertIs(fence_holds(tables, fence), True)
                self.assertIsNone(shortest(tables, 12))
            if way is not None:
                self.assertIs(is_nought(along(tables, way)), True)
                self.assertIs(is_nought(along(turned_all(tables), way_back(tables, way))), True)
                self.assertEqual(len(shortest(turned_all(tables), 6)), len(way))
        self.assertGreater(fenced, 5)

    def test_the_same_as_by_signs(self):
        for tables in [tables for tables in plain_lists() if len(tables[0]) == 2]:
            self.assertEqual(shortest(tables, 12), sign_way(tables))

    def test_the_same_as_of_rows(self):
        for tables in twos():
            for row in rows_of(tables):
                self.assertEqual(line_way(tables, line_of(row), 4), lost_in(tables, row, 4))


class TestRows(unittest.TestCase):

    def test_6_3(self):
        for tables in any_lists():
            for row in rows_of(tables):
                way = lost_in(tables, row, 4)
                for m in (2, 3, 5) if len(row) < 4 else (2,):
                    fence = row_fence(tables, row, m)
                    self.assertNotEqual(fence is None, lost_by(tables, row, m) is None)
                    if fence is not None:
                        self.assertIsNone(way)
                        self.assertIs(row_fence_holds(tables, row, m, fence), True)
                    if way is not None:
                        self.assertLessEqual(len(lost_by(tables, row, m)), len(way))

    def test_6_4(self):
        found = 0
        for tables in any_lists():
            for row in rows_of(tables):
                column = column_of(tables, row)
                if column is not None:
                    found += 1
                    self.assertIs(column_holds(tables, row, column), True)
                    self.assertIsNone(lost_in(tables, row, 4))
                    for way in ways(tables, 2):
                        led = row_along(tables, row, way)
                        self.assertNotEqual(sum(one * other for one, other in zip(led, column)), 0)
        self.assertGreater(found, 20)


class TestCounts(unittest.TestCase):

    def test_7_1(self):
        for tables in plain_lists():
            many, begun = ways_many(tables, 20), fresh_many(tables, 20)
            for k in range(20):
                self.assertEqual(many[k + 1], len(tables) * many[k] + begun[k + 1])
            way = sign_way(tables)
            first = next((k for k in range(21) if many[k]), None)
            self.assertEqual(first, None if way is None else len(way))
            if way is not None:
                self.assertEqual(way_at(tables, len(way), 0), way)
                self.assertEqual(way_number(tables, way), 0)

    def test_7_3(self):
        for tables in plain_lists():
            for places in (0, 1, 5, 20):
                told = dict(left_sets(tables, places))
                self.assertEqual(sum(told.values()), len(tables) ** places)
                self.assertEqual(told.get((), 0), ways_many(tables, places)[-1])
                self.assertLessEqual(set(told), set(sets_met(tables)))

    def test_7_4(self):
        for tables in plain_lists():
            shares = [Fraction(*share(tables, places)) for places in range(1, 15)]
            self.assertEqual(shares, sorted(shares))
            self.assertEqual(always_from(tables) is not None, all_nought(tables))
            if all_nought(tables):
                self.assertEqual(shares.index(1) + 1, always_from(tables))
            else:
                self.assertNotIn(1, shares)


class TestChanges(unittest.TestCase):

    def test_8_1(self):
        for tables in any_lists():
            for way in ways(tables, 3):
                self.assertIs(is_nought(along(turned_all(tables), way_back(tables, way))),
                              is_nought(along(tables, way)))

    def test_8_2(self):
        draw = drawer(113)
        for tables in any_lists():
            size = len(tables[0])
            by = shut(draw.sample(units(size), size))
            for often in range(size - 1):
                by = times(by, shut([[int(i == j) + draw.randint(-2, 2) * (i < j) for j in range(size)]
                                     for i in range(size)]))
            other = changed(tables, by)
            self.assertEqual(noughts(other, 3), noughts(tables, 3))
            self.assertEqual(changed(other, undone(by)), tables)
            self.assertEqual([rank(table) for table in other], [rank(table) for table in tables])
            self.assertEqual([determinant(table) for table in other], [determinant(table) for table in tables])
            self.assertIs(all_nought(other), all_nought(tables))

    def test_8_3(self):
        lists = [tables for tables in any_lists() if len(tables[0]) < 3]
        for one, other in itertools.product(lists[::3], lists[::4]):
            if len(one) == len(other):
                both = noughts(beside(one, other), 3)
                self.assertEqual(both, [way for way in noughts(one, 3) if way in noughts(other, 3)])

    def test_8_4(self):
        lists = [tables for tables in any_lists() if len(tables) < 3]
        for one, other in itertools.product(lists[::5], lists[::6]):
            if len(one[0]) == len(other[0]):
                both = joined(one, other)
                self.assertEqual(both, one + other)
                for way in ways(one, 2):
                    self.assertEqual(along(both, way), along(one, way))
                for way in ways(other, 2):
                    self.assertEqual(along(both, tuple([place + len(one) for place in way])), along(other, way))

    def test_8_5(self):
        for tables in any_lists():
            for at, often in itertools.product(range(len(tables)), (1, 2, 5)):
                for way in ways(tables, 2):
                    self.assertEqual(along(tables, spread(tables, at, often, way)),
                                     along(powered(tables, at, often), way))
            for number in (-1, 3):
                taken = [shut([[number * one for one in row] for row in table]) for table in tables]
                self.assertEqual(noughts(taken, 3), noughts(tables, 3))
                self.assertIs(all_nought(taken), all_nought(tables))


class TestSmallSizes(unittest.TestCase):

    def test_9_4(self):
        for size in (1, 2, 3):
            for alike in alike_marks(size):
                self.assertEqual(len({str(always_from([mark])) for mark in alike}), 1)
                self.assertEqual(len({len(sign_way([mark]) or ()) for mark in alike}), 1)

    def test_9_5(self):
        for size in (1, 2, 3):
            faded = [mark for mark in all_marks(size) if always_from([mark]) is not None]
            self.assertEqual(faded, [mark for mark in all_marks(size) if all_nought([mark])])
            self.assertEqual(sorted(turned(mark) for mark in faded), faded)
        lengths = {pair[:2]: pair[2] for pair in pair_lengths(2)}
        for pair, length in lengths.items():
            self.assertEqual(lengths[tuple(sorted(turned_all(list(pair))))], length)


class TestTextsAndDesk(unittest.TestCase):

    def test_read_again_and_put_on_a_desk(self):
        for tables in any_lists():
            if tables_wrong(tables) is not None:
                continue
            text = tables_shown(tables)
            self.assertEqual(tables_read(text), tables)
            desk = Desk()
            for row in text.split("\n"):
                self.assertEqual(desk.say("put " + row), "ok")
            self.assertEqual("\n".join(desk.say(f"shown {at}") for at in range(len(tables))), text)
            self.assertEqual(desk.say("all"), "yes" if stair_of(tables) is not None else "no")
            self.assertEqual(desk.say("turn"), "ok")
            self.assertEqual("\n".join(desk.say(f"shown {at}") for at in range(len(tables))),
                             tables_shown(turned_all(tables)))


if __name__ == "__main__":
    unittest.main()
