"""3.3: order_of, ring_of, order_holds, ring_holds; 3.4: the stair that comes of an order."""

import itertools
import unittest

from helper import FOUR, GREAT, ONE, TWO, all_marks, bent_rows, drawer, drawn, kinds_in, marked, refuses_below
from helper import refuses_tables, units, way_product, ways_of
from noughtways.allways import all_nought, stair_holds
from noughtways.orders import order_holds, order_of, ring_holds, ring_of

RIGHT = ((0, 1), (0, 0))
LEFT = ((0, 0), (1, 0))
NONE_TWO = ((0, 0), (0, 0))


def of_links(size, links):
    table = ((0,) * size,) * size
    for number, (i, j) in enumerate(links):
        table = marked(table, i, j, number + 1)
    return table


# Each with its order and its ring, worked out by hand.
KNOWN = [
    ([((0,),)], (0,), None), ([ONE], None, (0,)), ([((0,),), ONE], None, (0,)), ([NONE_TWO], (0, 1), None),
    ([RIGHT], (0, 1), None), ([LEFT], (1, 0), None), ([RIGHT, LEFT], None, (0, 1)), ([TWO], None, (0,)),
    ([((0, 0), (0, 9))], None, (1,)), ([((0, 5), (5, 9))], None, (1,)), ([GREAT], None, (0,)),
    ([of_links(3, [(0, 1), (1, 2)])], (0, 1, 2), None), ([of_links(3, [(2, 0)])], (1, 2, 0), None),
    ([of_links(3, [(2, 1), (1, 0)])], (2, 1, 0), None),
    ([of_links(3, [(1, 0)]), of_links(3, [(2, 0)])], (1, 2, 0), None),
    ([of_links(3, [(0, 1), (1, 2), (2, 0)])], None, (0, 1, 2)),
    ([of_links(3, [(1, 0), (2, 1), (0, 2)])], None, (0, 2, 1)),
    ([of_links(3, [(1, 2)]), of_links(3, [(2, 1)])], None, (1, 2)),
    ([of_links(3, [(0, 1), (1, 2), (2, 0), (2, 1)])], None, (1, 2)),
    ([of_links(4, [(3, 0), (0, 2)])], (1, 3, 0, 2), None), ([of_links(4, [(0, 3), (2, 1)])], (0, 2, 1, 3), None),
    ([of_links(4, [(0, 1), (1, 2), (2, 3), (3, 0)])], None, (0, 1, 2, 3)),
    ([of_links(4, [(0, 3), (3, 1), (1, 2), (2, 0)])], None, (0, 3, 1, 2)),
    ([of_links(4, [(3, 1)]), of_links(4, [(1, 2)]), of_links(4, [(2, 3)])], None, (1, 2, 3)),
    ([of_links(4, [(0, 2), (2, 0), (0, 1), (1, 0), (3, 2)])], None, (0, 1)),
    ([of_links(4, [(0, 1), (1, 3), (3, 0), (0, 2), (2, 3)])], None, (0, 1, 3)), ([FOUR], None, (0,)),
]


def linked(tables, i, j):
    return any(table[i][j] for table in tables)


def is_order(tables, row):
    return all(row.index(j) > row.index(i) for i in row for j in row if linked(tables, i, j))


def is_ring(tables, row):
    return all(linked(tables, row[k], row[(k + 1) % len(row)]) for k in range(len(row)))


def some_lists():
    draw = drawer(36)
    told = [tables for tables, order, ring in KNOWN]
    for size in range(1, 5):
        for often in range(60):
            many = draw.randint(1, 4)
            links = draw.sample(list(itertools.product(range(size), repeat=2)), draw.randint(0, size))
            told.append([of_links(size, links[at::many]) for at in range(many)])
            numbers = draw.sample(range(size), size)
            told.append([of_links(size, [(i, j) for i in range(size) for j in range(size)
                                         if numbers[i] < numbers[j] and draw.randint(0, 1)]) for at in range(many)])
            told.append([drawn(draw, size, 0, 1)])
    return told


def rows_of(size):
    """All rows of unlike places, one at least."""
    return [row for many in range(1, size + 1) for row in itertools.permutations(range(size), many)]


class TestOrderOf(unittest.TestCase):

    def test_worked_out_by_hand(self):
        for tables, due, ring in KNOWN:
            self.assertEqual(kinds_in(order_of(tables)), kinds_in(due), tables)

    def against_all_rows(self, tables):
        rows = [row for row in itertools.permutations(range(len(tables[0]))) if is_order(tables, row)]
        self.assertEqual(order_of(tables), rows[0] if rows else None, tables)

    def test_against_all_rows_gone_through(self):
        for tables in some_lists():
            self.against_all_rows(tables)
        for size in range(1, 4):
            for mark in all_marks(size):
                self.against_all_rows([mark])

    def test_told_just_where_all_ways_come_to_nought(self):
        for tables in some_lists():
            size = len(tables[0])
            left = any(any(any(row) for row in way_product(tables, way)) for way in ways_of(len(tables), size))
            self.assertEqual(order_of(tables) is None, left)
            self.assertIs(all_nought(tables), not left)


class TestRingOf(unittest.TestCase):

    def test_worked_out_by_hand(self):
        for tables, order, due in KNOWN:
            self.assertEqual(kinds_in(ring_of(tables)), kinds_in(due), tables)

    def against_all_rings(self, tables):
        rings = [row for row in rows_of(len(tables[0])) if row[0] == min(row) and is_ring(tables, row)]
        due = min(rings, key=lambda row: (len(row), row), default=None)
        self.assertEqual(ring_of(tables), due, tables)

    def test_against_all_rings_gone_through(self):
        for tables in some_lists():
            self.against_all_rings(tables)
        for size in range(1, 4):
            for mark in all_marks(size):
                self.against_all_rings([mark])

    def test_an_order_or_a_ring_never_both(self):
        for tables in some_lists():
            self.assertEqual(order_of(tables) is None, ring_of(tables) is not None)


class TestOrderHolds(unittest.TestCase):

    def test_rows_by_anybody(self):
        for tables in some_lists():
            for row in itertools.permutations(range(len(tables[0]))):
                self.assertIs(order_holds(tables, row), is_order(tables, row), (tables, row))

    def test_rows_of_other_places(self):
        for size in range(1, 5):
            tables = [((0,) * size,) * size]
            for many in range(0, 6):
                for row in itertools.product(range(-1, size + 1), repeat=many):
                    self.assertIs(order_holds(tables, row), sorted(row) == list(range(size)), row)

    def test_whatever_is_handed_in(self):
        for size in range(1, 5):
            tables = [((0,) * size,) * size]
            row = tuple(range(size))
            self.assertIs(order_holds(tables, row), True)
            for thing in bent_rows(row):
                self.assertIs(order_holds(tables, thing), False, thing)


class TestRingHolds(unittest.TestCase):

    def test_rings_by_anybody(self):
        for tables in some_lists():
            for row in rows_of(len(tables[0])):
                self.assertIs(ring_holds(tables, row), is_ring(tables, row), (tables, row))

    def test_whatever_place_a_ring_begins_with(self):
        found = 0
        for tables in some_lists():
            ring = ring_of(tables)
            for at in range(len(ring or ())):
                self.assertIs(ring_holds(tables, ring[at:] + ring[:at]), True)
                found += at
        self.assertGreater(found, 50)

    def test_places_twice_and_beyond(self):
        for size in range(1, 5):
            tables = [((1,) * size,) * size]
            for many in range(0, 6):
                for row in itertools.product(range(-1, size + 1), repeat=many):
                    due = len(row) > 0 and len(set(row)) == len(row) and set(row) <= set(range(size))
                    self.assertIs(ring_holds(tables, row), due, row)

    def test_whatever_is_handed_in(self):
        for size in range(1, 5):
            tables = [((1,) * size,) * size]
            row = tuple(range(size))
            self.assertIs(ring_holds(tables, row), True)
            for thing in bent_rows(row):
                self.assertIs(ring_holds(tables, thing), False, thing)


class TestRefusals(unittest.TestCase):

    calls = ((order_of, ()), (ring_of, ()), (order_holds, ((0, 1),)), (order_holds, (None,)),
             (ring_holds, ((0,),)), (ring_holds, ([],)))

    def test_below_behind_no_tables(self):
        for call, behind in self.calls:
            refuses_below(self, call, *behind)

    def test_no_tables(self):
        for call, behind in self.calls:
            refuses_tables(self, call, *behind)


class TestStairOfAnOrder(unittest.TestCase):

    def test_one_place_fewer_list_by_list(self):
        found = 0
        for tables in some_lists():
            order = order_of(tables)
            if order is not None:
                lines = units(len(order))
                stair = [[lines[place] for place in order[at:]] for at in range(len(order))]
                self.assertIs(stair_holds(tables, stair), True, tables)
                found += 1
        self.assertGreater(found, 100)

    def test_of_any_order(self):
        for tables in some_lists():
            size = len(tables[0])
            for row in itertools.permutations(range(size)):
                stair = [[units(size)[place] for place in row[at:]] for at in range(size)]
                self.assertIs(stair_holds(tables, stair), is_order(tables, row))


if __name__ == "__main__":
    unittest.main()
