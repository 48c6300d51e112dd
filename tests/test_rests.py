"""4.1 to 4.4: rests of tables and ways, ways and fences of rests."""

import itertools
import unittest

from helper import FOUR, GREAT, LIMIT, ONE, THREE, TWO, deep, drawer, drawn, fading, kinds_in, marked, refusal
from helper import nought, refuses_table, refuses_tables, shut, times, way_product, ways_of, whatever, wrong_rests
from noughtways.errors import NoRest, NoTable, NoTables, NoWay, TooGreat
from noughtways.rests import barred_by, rest_along, rest_fence, rest_fence_holds, rest_table, rest_way
from noughtways.tables import along

RESTS = range(2, 8)
RIGHT = ((0, 1), (0, 0))
SWAP = ((0, 1), (1, 0))
STEP = ((1, 1), (0, 1))
STAY_THREE = ((1, 0, 0), (0, 1, 0), (0, 0, 1))
STAY_FOUR = ((1, 0, 0, 0), (0, 1, 0, 0), (0, 0, 1, 0), (0, 0, 0, 1))


def rest_of(number, m):
    """The number from 0 to m - 1, m taken off or put on so often."""
    figures = abs(number)
    while figures >= m:
        often = m
        while often * m <= figures:
            often *= m
        figures -= often
    return m - figures if number < 0 and figures else figures


def rests(table, m):
    return shut([[number % m for number in row] for row in table])


def ways_by_rests(tables, m):
    """Each table of rests that is met, with its first way, found by going on till nothing new is met."""
    told = {}
    level = [((at,), rests(tables[at], m)) for at in range(len(tables))]
    while level:
        fresh = []
        for way, table in level:
            if table not in told:
                told[table] = way
                fresh.append((way, table))
        level = [(way + (at,), rests(times(table, tables[at]), m)) for way, table in fresh for at in range(len(tables))]
    return told


def first_by_all(tables, m, most):
    """The first way to nought by m of at most so many places, all ways gone through."""
    for places in range(1, most + 1):
        for way in ways_of(len(tables), places):
            if rests(way_product(tables, way), m) == nought(len(tables[0])):
                return way
    return None


def some_lists():
    """Lists of tables of size 1 and 2, small enough for each m."""
    draw = drawer(41)
    told = [[ONE], [((0,),)], [((30,),)], [((210,),)], [((2,),), ((3,),)], [TWO], [RIGHT], [SWAP, RIGHT], [STEP, SWAP],
            [GREAT], [((2, 0), (0, 3))], [((6, 0), (0, 35))]]
    for often in range(25):
        told.append([drawn(draw, 1, -30, 30) for at in range(draw.randint(1, 4))])
        told.append([drawn(draw, 2, -3, 3) for at in range(draw.randint(1, 3))])
        told.append([drawn(draw, 2, 0, 1) for at in range(draw.randint(1, 2))])
        told.append([times(drawn(draw, 2, -2, 2), fading(draw, 2, 1)[0]) for at in range(2)])
    return told


def some_threes():
    draw = drawer(42)
    told = [[STAY_THREE], [THREE], [((0, 1, 0), (0, 0, 1), (1, 0, 0)), ((1, 0, 0), (0, 1, 0), (0, 0, 0))]]
    for often in range(15):
        told.append([drawn(draw, 3, -2, 2) for at in range(draw.randint(1, 2))])
        told.append(fading(draw, 3, 2))
    return told


class TestRestTable(unittest.TestCase):

    def test_worked_out_by_hand(self):
        for table, m, due in (
                (((7,),), 2, ((1,),)), (((7,),), 7, ((0,),)), (((-1,),), 7, ((6,),)), (((-7,),), 7, ((0,),)),
                (TWO, 2, ((1, 0), (1, 0))), (TWO, 3, ((1, 2), (0, 1))), (((-1, -2), (-3, -4)), 3, ((2, 1), (0, 2))),
                (((-5, 5), (6, -6)), 4, ((3, 1), (2, 2))), (THREE, 5, ((1, 2, 3), (4, 0, 1), (2, 3, 4))),
                (FOUR, 6, ((1, 2, 3, 4), (5, 0, 1, 2), (3, 4, 5, 0), (1, 2, 3, 4))),
                (((10 ** 99, -(10 ** 99)), (LIMIT, -LIMIT)), 3, ((1, 2), (1, 2))),
                (((10 ** 99 + 1, 1 - 10 ** 99), (LIMIT, -LIMIT)), 2, ((1, 1), (0, 0)))):
            self.assertEqual(kinds_in(rest_table(table, m)), kinds_in(due), (table, m))

    def test_less_or_more_by_m_taken_so_often(self):
        for m in RESTS:
            for number in list(range(-60, 61)) + [10 ** 40 + 9, -(10 ** 40) - 9, LIMIT - 1, 1 - LIMIT]:
                self.assertEqual(rest_table(((number,),), m), ((rest_of(number, m),),))

    def test_no_rest(self):
        for thing in wrong_rests():
            for table in (ONE, TWO, THREE, FOUR, GREAT):
                refusal(self, NoRest, rest_table, table, thing)

    def test_no_table_ahead_of_no_rest(self):
        for m in (2, 7, 1, None, [], True):
            refuses_table(self, rest_table, m)


class TestRestAlong(unittest.TestCase):

    def test_worked_out_by_hand(self):
        for tables, way, m, due in (
                ([((2,),), ((3,),)], (0, 1), 6, ((0,),)), ([((2,),), ((3,),)], (0, 1, 1), 7, ((4,),)),
                ([((-2,),)], (0, 0, 0), 7, ((6,),)), ([STEP], (0,) * 200, 7, ((1, 4), (0, 1))),
                ([STEP, SWAP], (0, 1, 0, 0), 2, ((1, 1), (1, 0))), ([TWO, SWAP], (0, 1), 3, ((2, 1), (1, 0)))):
            self.assertEqual(kinds_in(rest_along(tables, way, m)), kinds_in(due), (tables, way, m))

    def test_the_rests_of_the_product(self):
        draw = drawer(43)
        for size in range(1, 5):
            for low, high in ((-3, 3), (1 - LIMIT, LIMIT - 1), (-(10 ** 60), 10 ** 60)):
                tables = [drawn(draw, size, low, high) for at in range(3)]
                for m in RESTS:
                    for places in (1, 2, 5, 20):
                        way = tuple([draw.randrange(3) for at in range(places)])
                        self.assertEqual(rest_along(tables, way, m), rests(way_product(tables, way), m))
                        self.assertEqual(rest_along(tables, way, m), rest_table(along(tables, way), m))

    def test_no_way(self):
        for m in RESTS:
            for thing in whatever() + [(), (2,), (-1,), (0,) * 201, [0], (True,), (0, None)]:
                refusal(self, NoWay, rest_along, [TWO, SWAP], thing, m)

    def test_no_rest_ahead_of_no_way(self):
        for thing in wrong_rests():
            for way in ((0,), (), (1,), None, [0], (0,) * 201):
                refusal(self, NoRest, rest_along, [TWO], way, thing)

    def test_no_tables_ahead_of_all(self):
        for way, m in (((0,), 2), ((), 2), ((0,), 8), (None, None)):
            refuses_tables(self, rest_along, way, m)


class TestRestWay(unittest.TestCase):

    def test_worked_out_by_hand(self):
        for tables, m, due in (
                ([((0,),)], 2, (0,)), ([ONE], 7, (0,)), ([ONE], 2, None), ([((2,),)], 4, (0, 0)), ([((2,),)], 3, None),
                ([((2,),), ((3,),)], 6, (0, 1)), ([((3,),), ((2,),)], 6, (0, 1)),
                ([((5,),), ((2,),), ((3,),)], 6, (1, 2)),
                ([((-2,),)], 2, (0,)), ([RIGHT], 5, (0, 0)), ([STEP, RIGHT], 5, (1, 1)), ([SWAP, STEP], 5, None),
                ([SWAP, ((1, 0), (0, 0))], 3, (1, 0, 1)), ([((1, 1), (1, 1))], 2, (0, 0)),
                ([((1, 1), (1, 1))], 3, None),
                ([((1, 2), (1, 2))], 3, (0, 0)), ([((3, 0), (0, 3))], 3, (0,)), ([((2, 0), (0, 6))], 4, (0, 0)),
                ([STAY_THREE], 2, None), ([THREE], 2, None), ([((2, 2, 2), (4, 6, 8), (0, 0, 0))], 2, (0,)),
                ([((0, 1, 0), (0, 0, 1), (1, 0, 0)), ((1, 0, 0), (0, 1, 0), (0, 0, 0))], 2, (1, 0, 1, 0, 1))):
            self.assertEqual(kinds_in(rest_way(tables, m)), kinds_in(due), (tables, m))

    def test_against_all_ways_gone_through(self):
        for tables in some_lists():
            for m in RESTS:
                way = rest_way(tables, m)
                due = first_by_all(tables, m, 4)
                if due is not None or way is None:
                    self.assertEqual(way, due, (tables, m))
                else:
                    self.assertGreater(len(way), 4)

    def test_against_going_on_till_nothing_new_is_met(self):
        found = 0
        for tables in some_lists():
            for m in RESTS:
                due = ways_by_rests(tables, m).get(nought(len(tables[0])))
                found += due is not None
                self.assertEqual(rest_way(tables, m), due, (tables, m))
        self.assertGreater(found, 50)
        for tables in some_threes():
            self.assertEqual(rest_way(tables, 2), ways_by_rests(tables, 2).get(nought(3)))

    def test_numbers_of_the_same_rests_have_the_same_ways(self):
        draw = drawer(44)
        for tables in some_lists()[:40]:
            for m in RESTS:
                others = [shut([[number + m * draw.randint(-(10 ** 30), 10 ** 30) for number in row] for row in table])
                          for table in tables]
                self.assertEqual(rest_way(others, m), rest_way(tables, m))
                self.assertEqual(rest_fence(others, m), rest_fence(tables, m))


class TestTooGreat(unittest.TestCase):

    def test_more_than_three_thousand(self):
        for call in (rest_way, rest_fence):
            for table, m, many in (
                    (STAY_THREE, 3, 19683), (STAY_THREE, 4, 262144), (THREE, 5, 1953125), (THREE, 6, 10077696),
                    (nought(3), 7, 40353607), (STAY_FOUR, 2, 65536), (FOUR, 3, 43046721), (nought(4), 4, 4294967296),
                    (FOUR, 5, 152587890625), (FOUR, 6, 2821109907456), (FOUR, 7, 33232930569601)):
                for tables in ([table], [table] * 4):
                    error = refusal(self, TooGreat, call, tables, m)
                    self.assertEqual(kinds_in((error.many, error.most)), kinds_in((many, 3000)))

    def test_three_thousand_or_fewer(self):
        for m in RESTS:
            for table in (ONE, TWO, GREAT):
                self.assertEqual(rest_way([table], m) is None, rest_fence([table], m) is not None)
        self.assertEqual(rest_fence([STAY_THREE], 2), [STAY_THREE])

    def test_no_rest_ahead_of_it(self):
        for call in (rest_way, rest_fence):
            for thing in wrong_rests():
                for table in (ONE, TWO, THREE, FOUR, GREAT):
                    refusal(self, NoRest, call, [table], thing)

    def test_no_tables_ahead_of_all(self):
        for call in (rest_way, rest_fence):
            for m in (2, 3, 8, None):
                refuses_tables(self, call, m)


def is_fence(tables, m, fence):
    """By the words of 4.3, of a list of tables of rests."""
    return (fence == sorted(fence) and len(fence) == len(set(fence)) and nought(len(tables[0])) not in fence
            and all(rests(table, m) in fence for table in tables)
            and all(rests(times(one, table), m) in fence for one in fence for table in tables))


class TestRestFence(unittest.TestCase):

    def test_worked_out_by_hand(self):
        for tables, m, due in (
                ([((1,),)], 2, [((1,),)]), ([((2,),)], 7, [((1,),), ((2,),), ((4,),)]),
                ([((-1,),)], 5, [((1,),), ((4,),)]),
                ([((2,),)], 4, None), ([RIGHT], 3, None), ([SWAP], 2, [((0, 1), (1, 0)), ((1, 0), (0, 1))]),
                ([STEP], 3, [((1, 0), (0, 1)), ((1, 1), (0, 1)), ((1, 2), (0, 1))]),
                ([((1, 1), (1, 1))], 3, [((1, 1), (1, 1)), ((2, 2), (2, 2))]),
                ([((3, 0), (0, 3))], 6, [((3, 0), (0, 3))]),
                ([((-1, 0), (0, 0))], 7, [((1, 0), (0, 0)), ((6, 0), (0, 0))]), ([STAY_THREE], 2, [STAY_THREE])):
            self.assertEqual(kinds_in(rest_fence(tables, m)), kinds_in(due), (tables, m))

    def looked_at(self, tables, m):
        fence = rest_fence(tables, m)
        self.assertEqual(fence is None, rest_way(tables, m) is not None)
        if fence is not None:
            self.assertEqual(fence, sorted(ways_by_rests(tables, m)))
            if len(fence) < 200:
                self.assertTrue(is_fence(tables, m, fence))
            self.assertIs(rest_fence_holds(tables, m, fence), True)

    def test_a_way_or_a_fence_never_both(self):
        for tables in some_lists():
            for m in RESTS:
                self.looked_at(tables, m)
        for tables in some_threes():
            self.looked_at(tables, 2)

    def test_where_there_is_a_fence_no_product_is_nought(self):
        for tables in some_lists():
            noughts = [way for places in range(1, 5) for way in ways_of(len(tables), places)
                       if way_product(tables, way) == nought(len(tables[0]))]
            for m in RESTS:
                if rest_fence(tables, m) is not None:
                    self.assertEqual(noughts, [])

    def test_the_list_is_the_askers_own(self):
        told = rest_fence([STEP], 2)
        told.append(None)
        told[0] = ()
        self.assertEqual(rest_fence([STEP], 2), [((1, 0), (0, 1)), ((1, 1), (0, 1))])


class TestRestFenceHolds(unittest.TestCase):

    def holds(self, tables, m, thing, due):
        self.assertIs(rest_fence_holds(tables, m, thing), due, (tables, m, thing))

    def test_all_lists_of_size_one(self):
        for m in RESTS:
            ones = [((number,),) for number in range(m)]
            for numbers in ((1,), (2,), (m - 1,), (2, 3), (-1,), (0, 1), (1, 1)):
                tables = [((number,),) for number in numbers]
                for many in range(4):
                    for fence in itertools.product(ones, repeat=many):
                        self.holds(tables, m, list(fence), is_fence(tables, m, list(fence)))

    def test_all_lists_of_a_few_tables_by_two(self):
        tables = [rests(drawn(drawer(seed), 2, 0, 1), 2) for seed in range(5)] + [SWAP, STEP]
        for one in tables:
            for many in range(3):
                for fence in itertools.product(sorted(set(tables)), repeat=many):
                    self.holds([one], 2, list(fence), is_fence([one], 2, list(fence)))

    def test_fences_by_anybody(self):
        self.holds([((1,),)], 7, [((number,),) for number in range(1, 7)], True)
        self.holds([((3,),)], 7, [((number,),) for number in range(1, 7)], True)
        self.holds([((2,),)], 6, [((2,),), ((4,),)], True)
        self.holds([((2,),)], 6, [((2,),), ((3,),), ((4,),)], False)
        self.holds([((2,),)], 6, [((number,),) for number in range(1, 6)], False)
        self.holds([((-4,),)], 6, [((2,),), ((4,),)], True)
        self.holds([SWAP], 2, [((0, 1), (0, 1)), ((0, 1), (1, 0)), ((1, 0), (0, 1)), ((1, 0), (1, 0))], True)

    def test_no_size_is_too_great(self):
        for m in RESTS:
            self.holds([STAY_THREE], m, [STAY_THREE], True)
            self.holds([STAY_FOUR] * 4, m, [STAY_FOUR], True)
            self.holds([STAY_FOUR, nought(4)], m, [STAY_FOUR], False)
            self.holds([FOUR], m, [FOUR], False)
            self.holds([marked(STAY_FOUR, 0, 0, 1 + m)], m, [STAY_FOUR], True)
            self.holds([marked(STAY_FOUR, 0, 0, 1 - m * 10 ** 50)], m, [STAY_FOUR], True)

    def test_the_product_begins_with_the_fences_table(self):
        first, other = ((1, 1), (0, 0)), ((1, 0), (0, 0))
        self.assertEqual((times(other, first), times(first, other)), (first, other))
        self.holds([other], 2, [other, first], True)
        self.holds([SWAP], 2, sorted([SWAP, ((1, 0), (0, 1)), ((1, 1), (0, 0))]), True)
        self.holds([SWAP], 2, sorted([SWAP, ((1, 0), (0, 1)), ((1, 0), (1, 0))]), False)

    def test_lists_with_one_thing_otherwise(self):
        for tables in some_lists() + some_threes():
            size = len(tables[0])
            for m in (2, 3) if size < 3 else (2,):
                fence = rest_fence(tables, m)
                if fence is None:
                    self.holds(tables, m, sorted({rests(table, m) for table in tables}), False)
                    continue
                self.holds(tables, m, [nought(size)] + fence, False)
                for at in range(0, len(fence), 1 + len(fence) // 5):
                    table = fence[at]
                    for thing in ([], [table, table], [list(table)], [tuple([list(row) for row in table])],
                                  [marked(table, 0, 0, table[0][0] + m)],
                                  [marked(table, 0, 0, table[0][0] - m)], [table + table], [table[0]], [None],
                                  [marked(table, size - 1, 0, table[size - 1][0] == 1)], [nought(size)]):
                        self.holds(tables, m, fence[:at] + thing + fence[at + 1:], False)
                if len(fence) > 1:
                    self.holds(tables, m, fence[::-1], False)
                self.holds(tables, m, tuple(fence), False)

    def test_numbers_from_nought_to_one_less_than_m(self):
        for m in RESTS:
            self.holds([((1,),)], m, [((1,),), ((m,),)], False)
            self.holds([((1,),)], m, [((1,),), ((m + 1,),)], False)
            self.holds([((1,),)], m, [((-1,),), ((1,),)], False)
            if m > 2:
                self.holds([((1,),)], m, [((1,),), ((m - 1,),)], True)

    def test_each_number_from_nought_to_one_less_than_m(self):
        for m in RESTS:
            for stay in (((1, 0), (0, 1)), STAY_THREE, STAY_FOUR):
                for i, j in itertools.product(range(len(stay)), repeat=2):
                    for number in (-m, -1, 0, 1, m - 1, m, m + 1, 10 ** 99):
                        table = marked(stay, i, j, number)
                        self.holds([stay], m, sorted({stay, table}), 0 <= number < m)

    def test_tables_of_another_size(self):
        self.holds([SWAP], 2, [((0, 1), (1, 0)), ((1,),)], False)
        self.holds([((1,),)], 2, [((0, 1), (1, 0)), ((1,),)], False)
        self.holds([((1,),)], 2, [((0, 1), (1, 0))], False)
        self.holds([STAY_THREE], 2, [STAY_FOUR], False)

    def test_whatever_is_handed_in(self):
        for m in RESTS:
            for table in (((1,),), SWAP, STAY_THREE, STAY_FOUR):
                for thing in whatever() + [table, (table,), {table: True}, deep([table], 16), str([table])]:
                    self.holds([table], m, thing, False)
                    self.holds([table], m, [table, thing], False)
                    self.holds([table], m, [thing, table], False)

    def test_refusals(self):
        for thing in ([((1,),)], [], None):
            for m in (2, 7, 8, None, True):
                refuses_tables(self, rest_fence_holds, m, thing)
            for m in wrong_rests():
                refusal(self, NoRest, rest_fence_holds, [((1,),)], m, thing)
                refusal(self, NoRest, rest_fence_holds, [FOUR], m, thing)


class TestBarredBy(unittest.TestCase):

    def test_worked_out_by_hand(self):
        for tables, due in (
                ([((1,),)], 2), ([((2,),)], 3), ([((-2,),)], 3), ([((6,),)], 5), ([((30,),)], 7), ([((210,),)], None),
                ([((0,),)], None), ([((2,),), ((3,),)], 5), ([((1,),), ((210,),)], None), ([((7,),)], 2),
                ([SWAP], 2), ([RIGHT], None), ([STEP, RIGHT], None), ([((1, 1), (1, 1))], 3), ([((2, 0), (0, 3))], 2),
                ([((2, 0), (0, 4))], 3), ([((30, 0), (0, 30))], 7), ([((6, 0), (0, 6)), ((5, 0), (0, 5))], 7),
                ([((210, 0), (0, 420))], None), ([STAY_THREE], 2), ([THREE], 2),
                ([((2, 0, 0), (0, 2, 0), (0, 0, 2))], None),
                ([STAY_FOUR], None), ([FOUR], None), ([nought(4)], None), ([GREAT], 2)):
            self.assertEqual(kinds_in(barred_by(tables)), kinds_in(due), tables)

    def test_the_least_by_which_there_is_a_fence(self):
        for tables in some_lists():
            fenced = [m for m in RESTS if nought(len(tables[0])) not in ways_by_rests(tables, m)]
            self.assertEqual(barred_by(tables), fenced[0] if fenced else None, tables)
        for tables in some_threes():
            self.assertEqual(barred_by(tables), 2 if nought(3) not in ways_by_rests(tables, 2) else None, tables)

    def test_a_way_to_nought_is_one_by_each_m(self):
        draw = drawer(45)
        for often in range(20):
            tables = fading(draw, 2, draw.randint(1, 3))
            way = tuple([draw.randrange(len(tables)) for place in range(2)])
            for m in RESTS:
                self.assertEqual(rest_along(tables, way, m), nought(2))
                self.assertLessEqual(len(rest_way(tables, m)), 2)
                self.assertIsNone(rest_fence(tables, m))
            self.assertIsNone(barred_by(tables))

    def test_a_way_to_nought_by_m_need_not_be_one_to_nought(self):
        self.assertEqual(rest_way([((210,),)], 7), (0,))
        self.assertEqual(along([((210,),)], (0,)), ((210,),))

    def test_no_tables(self):
        refuses_tables(self, barred_by)
        self.assertEqual(refusal(self, NoTables, barred_by, [SWAP, None]).at, 1)
        refusal(self, NoTable, rest_table, [SWAP], 2)


if __name__ == "__main__":
    unittest.main()
