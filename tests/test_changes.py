"""8.1 to 8.5: tables turned, changed, beside one another, joined, powered, and what their ways are."""

import itertools
import unittest

from helper import FOUR, GREAT, LIMIT, ONE, THREE, TWO, drawer, drawn, fading, kinds_in, no_tables_at_all, nought
from helper import refusal, refuses_table, refuses_tables, shut, thinned, times, units, way_product, ways_of, whatever
from helper import wrong_places, wrong_tables, wrong_ways
from noughtways.changes import beside, changed, joined, powered, spread, turned_all, undone, way_back
from noughtways.errors import NoTable, NoTables, NoWay, TooGreat
from noughtways.ranks import determinant
from noughtways.signs import sign_way
from noughtways.tables import along, is_nought

RIGHT = ((0, 1), (0, 0))
LEFT = ((0, 0), (1, 0))
SWAP = ((0, 1), (1, 0))
STEP = ((1, 1), (0, 1))
STAY = ((1, 0), (0, 1))
TURN = ((0, 1, 0), (0, 0, 1), (1, 0, 0))


def stay(size):
    return shut(units(size))


def around(table):
    return shut(zip(*table))


def some_lists():
    draw = drawer(81)
    told = [[ONE], [((0,),), ONE], [TWO], [RIGHT, LEFT], [SWAP, RIGHT], [GREAT], [THREE, TURN], [FOUR] * 4]
    for size in range(1, 5):
        for often in range(8):
            many = draw.randint(1, 3)
            told.append([drawn(draw, size, -2, 2) for at in range(many)])
            told.append([thinned(draw, size) for at in range(many)])
            told.append(fading(draw, size, many))
    return told


def ways_to(tables, most):
    """All ways of one to so many places."""
    return [way for places in range(1, most + 1) for way in ways_of(len(tables), places)]


def noughts(tables, most):
    size = len(tables[0])
    return [way for way in ways_to(tables, most) if way_product(tables, way) == nought(size)]


def undoable(draw, size):
    """A table with determinant 1 or -1: the table of ones, its rows added to one another, put elsewhere and turned."""
    rows = [list(row) for row in draw.sample(units(size), size)]
    for often in range(3 * (size - 1)):
        one, other = draw.sample(range(size), 2)
        number = draw.randint(-3, 3)
        rows[one] = [rows[one][k] + number * rows[other][k] for k in range(size)]
    if draw.randint(0, 1):
        rows[0] = [-number for number in rows[0]]
    return shut(rows)


class TestTurnedAll(unittest.TestCase):

    def test_worked_out_by_hand(self):
        for tables, due in (
                ([ONE], [ONE]), ([TWO], [((1, 3), (2, 4))]), ([RIGHT, LEFT, SWAP], [LEFT, RIGHT, SWAP]),
                ([THREE, TURN], [((1, 4, 7), (2, 5, 8), (3, 6, 9)), ((0, 0, 1), (1, 0, 0), (0, 1, 0))]),
                ([((10 ** 99, -5), (0, 1))] * 4, [((10 ** 99, 0), (-5, 1))] * 4)):
            self.assertEqual(kinds_in(turned_all(tables)), kinds_in(due))

    def test_each_table_turned_and_back(self):
        for tables in some_lists():
            self.assertEqual(turned_all(tables), [around(table) for table in tables])
            self.assertEqual(turned_all(turned_all(tables)), tables)

    def test_the_list_is_the_askers_own(self):
        tables = [SWAP, STAY]
        told = turned_all(tables)
        told.append(None)
        told[0] = None
        self.assertEqual(tables, [SWAP, STAY])
        self.assertEqual(turned_all(tables), [SWAP, STAY])

    def test_no_tables(self):
        refuses_tables(self, turned_all)


class TestWayBack(unittest.TestCase):

    def test_worked_out_by_hand(self):
        for tables, way, due in (
                ([ONE], (0,), (0,)), ([ONE] * 2, (0, 1), (1, 0)), ([TWO] * 4, (0, 1, 2, 3, 3), (3, 3, 2, 1, 0)),
                ([TWO] * 2, (1,) + (0,) * 199, (0,) * 199 + (1,))):
            self.assertEqual(kinds_in(way_back(tables, way)), kinds_in(due))

    def test_one_to_nought_just_where_it_is_one_of_the_turned_tables_from_behind(self):
        for tables in some_lists():
            turned = turned_all(tables)
            for way in ways_to(tables, 3):
                back = way_back(tables, way)
                self.assertEqual(is_nought(along(turned, back)), is_nought(along(tables, way)))
                self.assertEqual(along(turned, back), around(along(tables, way)))
                self.assertEqual(way_back(turned, back), way)

    def test_no_tables_then_no_way(self):
        for way in ((0,), (), None, (9,)):
            refuses_tables(self, way_back, way)
        for many in range(1, 5):
            for thing in wrong_ways(many):
                refusal(self, NoWay, way_back, [TWO] * many, thing)


class TestUndone(unittest.TestCase):

    def test_worked_out_by_hand(self):
        for table, due in (
                (((1,),), ((1,),)), (((-1,),), ((-1,),)), (((0,),), None), (((2,),), None), (((-2,),), None),
                (STAY, STAY), (SWAP, SWAP), (STEP, ((1, -1), (0, 1))), (((2, 3), (1, 2)), ((2, -3), (-1, 2))),
                (((1, 2), (1, 1)), ((-1, 2), (1, -1))), (TWO, None), (((2, 0), (0, 2)), None), (((1, 1), (1, 1)), None),
                (nought(2), None), (TURN, ((0, 0, 1), (1, 0, 0), (0, 1, 0))), (THREE, None),
                (((1, 2, 3), (0, 1, 4), (5, 6, 0)), ((-24, 18, 5), (20, -15, -4), (-5, 4, 1))),
                (((0, 1, 0, 0), (0, 0, 1, 0), (0, 0, 0, 1), (1, 0, 0, 0)),
                 ((0, 0, 0, 1), (1, 0, 0, 0), (0, 1, 0, 0), (0, 0, 1, 0))), (FOUR, None), (GREAT, None),
                (((1, 10 ** 99), (0, -1)), ((1, 10 ** 99), (0, -1)))):
            self.assertEqual(kinds_in(undone(table)), kinds_in(due), table)

    def test_as_the_one_factor_or_the_other(self):
        draw = drawer(82)
        signs = set()
        for size in range(1, 5):
            for often in range(40):
                table = undoable(draw, size)
                back = undone(table)
                self.assertEqual(times(table, back), stay(size))
                self.assertEqual(times(back, table), stay(size))
                self.assertEqual(undone(back), table)
                signs.add((size, determinant(table)))
        self.assertEqual(signs, set(itertools.product(range(1, 5), (1, -1))))

    def test_none_just_where_the_determinant_is_another(self):
        draw = drawer(83)
        for size in range(1, 5):
            for often in range(60):
                table = drawn(draw, size, -2, 2)
                self.assertEqual(undone(table) is None, determinant(table) not in (1, -1))

    def test_all_small_tables_of_two_rows(self):
        for numbers in itertools.product(range(-2, 3), repeat=4):
            table = (numbers[:2], numbers[2:])
            back = undone(table)
            if numbers[0] * numbers[3] - numbers[1] * numbers[2] in (1, -1):
                self.assertEqual((times(table, back), times(back, table)), (STAY, STAY))
            else:
                self.assertIsNone(back)

    def test_a_told_table(self):
        great = along([((1, 10 ** 11), (0, 1)), ((1, 0), (10 ** 11, 1))], (0, 1) * 100)
        self.assertEqual(times(great, undone(great)), STAY)

    def test_no_table(self):
        refuses_table(self, undone)


class TestChanged(unittest.TestCase):

    def test_worked_out_by_hand(self):
        for tables, by, due in (
                ([ONE], ((1,),), [ONE]), ([ONE, ((0,),)], ((-1,),), [ONE, ((0,),)]), ([TWO], STAY, [TWO]),
                ([TWO], SWAP, [((4, 3), (2, 1))]), ([RIGHT, LEFT], SWAP, [LEFT, RIGHT]),
                ([LEFT], STEP, [((-1, -1), (1, 1))]), ([TWO, STAY], STEP, [((-2, -4), (3, 7)), STAY]),
                ([THREE], TURN, [((9, 7, 8), (3, 1, 2), (6, 4, 5))]),
                ([GREAT], STEP, [((LIMIT, LIMIT - 1), (0, 1))])):
            self.assertEqual(kinds_in(changed(tables, by)), kinds_in(due), (tables, by))

    def test_the_products_and_changed_by_the_undone_one_as_it_was(self):
        draw = drawer(84)
        for tables in some_lists():
            by = undoable(draw, len(tables[0]))
            told = changed(tables, by)
            self.assertEqual(told, [times(times(undone(by), table), by) for table in tables])
            self.assertEqual(changed(told, undone(by)), tables)
            self.assertEqual(noughts(told, 3), noughts(tables, 3))

    def test_the_list_is_the_askers_own(self):
        tables = [TWO, SWAP]
        told = changed(tables, STAY)
        told[0] = None
        self.assertEqual(tables, [TWO, SWAP])
        self.assertEqual(changed(tables, STAY), [TWO, SWAP])

    def test_no_tables_then_no_table(self):
        for by in (STAY, TWO, None, ONE):
            refuses_tables(self, changed, by)
        for thing in no_tables_at_all() + [[STAY], (STAY,), [list(row) for row in STAY]]:
            refusal(self, NoTable, changed, [TWO], thing)
            refusal(self, NoTable, changed, [FOUR] * 4, thing)

    def test_another_size_and_none_undone(self):
        for size, table in enumerate((ONE, TWO, THREE, FOUR), start=1):
            for other in range(1, 5):
                if other != size:
                    refusal(self, NoTable, changed, [table], stay(other))
            refusal(self, NoTable, changed, [table], nought(size))
            refusal(self, NoTable, changed, [table], table)
            refusal(self, NoTable, changed, [table] * 3, shut([[2 * number for number in row] for row in stay(size)]))
            self.assertEqual(changed([table], stay(size)), [table])


class TestBeside(unittest.TestCase):

    def test_worked_out_by_hand(self):
        for one, other, due in (
                ([ONE], [((-5,),)], [((7, 0), (0, -5))]), ([TWO], [ONE], [((1, 2, 0), (3, 4, 0), (0, 0, 7))]),
                ([ONE], [TWO], [((7, 0, 0), (0, 1, 2), (0, 3, 4))]),
                ([TWO], [SWAP], [((1, 2, 0, 0), (3, 4, 0, 0), (0, 0, 0, 1), (0, 0, 1, 0))]),
                ([THREE], [ONE], [((1, 2, 3, 0), (4, 5, 6, 0), (7, 8, 9, 0), (0, 0, 0, 7))]),
                ([ONE], [THREE], [((7, 0, 0, 0), (0, 1, 2, 3), (0, 4, 5, 6), (0, 7, 8, 9))]),
                ([ONE, ((2,),)], [((3,),), ((4,),)], [((7, 0), (0, 3)), ((2, 0), (0, 4))]),
                ([((10 ** 99,),)] * 4, [((0,),)] * 4, [((10 ** 99, 0), (0, 0))] * 4)):
            self.assertEqual(kinds_in(beside(one, other)), kinds_in(due), (one, other))

    def pairs(self):
        draw = drawer(85)
        sizes = [(one, other) for one in range(1, 4) for other in range(1, 4) if one + other <= 4]
        for often in range(80):
            one, other = draw.choice(sizes)
            many = draw.randint(1, 3)
            if often % 2:
                yield fading(draw, one, many), fading(draw, other, many)
            else:
                yield [thinned(draw, one) for at in range(many)], [thinned(draw, other) for at in range(many)]

    def test_one_to_nought_just_where_it_is_of_both(self):
        found = 0
        for one, other in self.pairs():
            both = beside(one, other)
            for way in ways_to(both, 4 if len(both) < 3 else 3):
                due = is_nought(along(one, way)) and is_nought(along(other, way))
                self.assertIs(is_nought(along(both, way)), due)
                found += due
        self.assertGreater(found, 500)

    def test_place_by_place(self):
        for one, other in self.pairs():
            for table, first, later in zip(beside(one, other), one, other):
                size = len(first)
                self.assertEqual(shut([row[:size] for row in table[:size]]), first)
                self.assertEqual(shut([row[size:] for row in table[size:]]), later)
                self.assertFalse(any(any(row[size:]) for row in table[:size]))
                self.assertFalse(any(any(row[:size]) for row in table[size:]))

    def test_no_tables_of_the_first_then_of_the_other(self):
        for other in ([ONE], [FOUR], [], None, [TWO, None], [ONE] * 4):
            refuses_tables(self, beside, other)
        for thing, at in wrong_tables():
            for one in ([ONE], [FOUR], [GREAT] * 3):
                self.assertEqual(kinds_in(refusal(self, NoTables, beside, one, thing).at), (int, at))
        self.assertEqual(refusal(self, NoTables, beside, [ONE, None], [TWO, TWO, None]).at, 1)

    def test_not_as_many(self):
        for one, other in itertools.permutations(range(1, 5), 2):
            for first, later in itertools.product((ONE, TWO, FOUR), repeat=2):
                self.assertEqual(refusal(self, NoTables, beside, [first] * one, [later] * other).at, -1)

    def test_too_many_rows(self):
        tables = {1: ONE, 2: TWO, 3: THREE, 4: FOUR}
        for one, other in itertools.product(tables, repeat=2):
            for many in (1, 4):
                if one + other > 4:
                    error = refusal(self, TooGreat, beside, [tables[one]] * many, [tables[other]] * many)
                    self.assertEqual(kinds_in((error.many, error.most)), kinds_in((one + other, 4)))
                else:
                    self.assertEqual(len(beside([tables[one]] * many, [tables[other]] * many)), many)


class TestJoined(unittest.TestCase):

    def test_worked_out_by_hand(self):
        for one, other, due in (
                ([ONE], [((2,),)], [ONE, ((2,),)]), ([TWO, RIGHT], [LEFT], [TWO, RIGHT, LEFT]),
                ([TWO], [RIGHT, LEFT, SWAP], [TWO, RIGHT, LEFT, SWAP]), ([FOUR], [FOUR], [FOUR, FOUR]),
                ([THREE, TURN], [TURN, THREE], [THREE, TURN, TURN, THREE]), ([GREAT], [STAY], [GREAT, STAY])):
            self.assertEqual(kinds_in(joined(one, other)), kinds_in(due))

    def test_the_list_is_the_askers_own(self):
        one, other = [TWO], [SWAP, STAY]
        told = joined(one, other)
        told[0] = None
        told.append(1)
        self.assertEqual((one, other), ([TWO], [SWAP, STAY]))
        self.assertEqual(joined(one, other), [TWO, SWAP, STAY])

    def test_ways_of_the_one_and_of_the_other(self):
        draw = drawer(86)
        for often in range(30):
            size = draw.randint(1, 4)
            one = [drawn(draw, size, -2, 2) for at in range(draw.randint(1, 2))]
            other = [drawn(draw, size, -2, 2) for at in range(draw.randint(1, 2))]
            both = joined(one, other)
            for way in ways_to(one, 3):
                self.assertEqual(along(both, way), along(one, way))
            for way in ways_to(other, 3):
                self.assertEqual(along(both, tuple([place + len(one) for place in way])), along(other, way))

    def test_no_tables_of_both(self):
        for other in ([ONE], [FOUR], [], None, [TWO, None], [ONE] * 4):
            refuses_tables(self, joined, other)
        for thing, at in wrong_tables():
            for one in ([ONE], [FOUR], [GREAT] * 4):
                self.assertEqual(kinds_in(refusal(self, NoTables, joined, one, thing).at), (int, at))

    def test_unlike_sizes_ahead_of_too_many(self):
        tables = (ONE, TWO, THREE, FOUR)
        for one, other in itertools.permutations(tables, 2):
            for first, later in itertools.product(range(1, 5), repeat=2):
                self.assertEqual(refusal(self, NoTables, joined, [one] * first, [other] * later).at, -1)

    def test_too_many(self):
        for first, later in itertools.product(range(1, 5), repeat=2):
            for table in (ONE, TWO, FOUR):
                if first + later > 4:
                    error = refusal(self, TooGreat, joined, [table] * first, [table] * later)
                    self.assertEqual(kinds_in((error.many, error.most)), kinds_in((first + later, 4)))
                else:
                    self.assertEqual(joined([table] * first, [table] * later), [table] * (first + later))


class TestPowered(unittest.TestCase):

    def test_worked_out_by_hand(self):
        for tables, at, often, due in (
                ([((2,),)], 0, 1, [((2,),)]), ([((2,),)], 0, 6, [((64,),)]), ([((-2,),), ONE], 0, 3, [((-8,),), ONE]),
                ([((-2,),), ONE], 1, 2, [((-2,),), ((49,),)]), ([STEP], 0, 5, [((1, 5), (0, 1))]),
                ([RIGHT, SWAP], 0, 2, [nought(2), SWAP]), ([RIGHT, SWAP], 1, 2, [RIGHT, STAY]),
                ([TWO], 0, 2, [((7, 10), (15, 22))]), ([TURN, TURN, TURN], 2, 3, [TURN, TURN, stay(3)]),
                ([GREAT], 0, 6, [((10 ** 72, 0), (0, 1))])):
            self.assertEqual(kinds_in(powered(tables, at, often)), kinds_in(due), (tables, at, often))

    def test_so_often_taken_by_itself(self):
        for tables in some_lists():
            for at in range(len(tables)):
                power = tables[at]
                for often in range(1, 7):
                    due = tables[:at] + [power] + tables[at + 1:]
                    self.assertEqual(powered(tables, at, often), due)
                    power = times(power, tables[at])

    def test_the_list_is_the_askers_own(self):
        tables = [TWO, SWAP]
        for often in (1, 2):
            told = powered(tables, 1, often)
            told[0] = None
            told.append(1)
            self.assertEqual(tables, [TWO, SWAP])

    def test_no_tables_then_no_place(self):
        for at in (0, None, 9):
            refuses_tables(self, powered, at, 2)
            refuses_tables(self, spread, at, 2, (0,))
        for many in range(1, 5):
            for thing in wrong_places(many):
                for often in (1, 6):
                    refusal(self, NoWay, powered, [TWO] * many, thing, often)
                    refusal(self, NoWay, spread, [TWO] * many, thing, often, (0,))
                    refusal(self, NoWay, spread, [TWO] * many, thing, often, ())


class TestSpread(unittest.TestCase):

    def test_worked_out_by_hand(self):
        for many, at, often, way, due in (
                (1, 0, 1, (0,), (0,)), (1, 0, 6, (0,), (0,) * 6), (2, 0, 2, (0, 1, 0), (0, 0, 1, 0, 0)),
                (2, 1, 3, (0, 1, 0), (0, 1, 1, 1, 0)), (2, 1, 3, (0, 0), (0, 0)),
                (4, 2, 2, (3, 2, 2, 1), (3, 2, 2, 2, 2, 1)),
                (4, 3, 1, (3, 2, 2, 1), (3, 2, 2, 1)), (1, 0, 6, (0,) * 200, (0,) * 1200)):
            self.assertEqual(kinds_in(spread([TWO] * many, at, often, way)), kinds_in(due), (many, at, often, way))

    def test_a_way_of_the_powered_tables_spread_has_the_same_product(self):
        for tables in some_lists():
            for at in range(len(tables)):
                for often in (1, 2, 3, 6):
                    power = powered(tables, at, often)
                    for way in ways_to(tables, 2):
                        self.assertEqual(along(tables, spread(tables, at, often, way)), along(power, way))

    def test_no_way(self):
        for many in range(1, 5):
            for thing in wrong_ways(many):
                for often in (1, 2, 6):
                    refusal(self, NoWay, spread, [TWO] * many, 0, often, thing)
                    refusal(self, NoWay, spread, [FOUR] * many, many - 1, often, thing)
        for thing in whatever():
            refuses_tables(self, spread, thing, 1, thing)


class TestSameWays(unittest.TestCase):

    def test_all_numbers_taken_by_a_number(self):
        for tables in some_lists():
            for number in (-3, -1, 2, 10 ** 9):
                taken = [shut([[number * one for one in row] for row in table]) for table in tables]
                self.assertEqual(noughts(taken, 3), noughts(tables, 3))
                for way in ways_to(tables, 2):
                    self.assertEqual(is_nought(along(taken, way)), is_nought(along(tables, way)))

    def test_signs_of_tables_that_were_told(self):
        for tables in some_lists():
            if min(number for table in tables for row in table for number in row) >= 0:
                back = sign_way(turned_all(tables))
                way = sign_way(tables)
                self.assertEqual(back is None, way is None)
                self.assertEqual(len(back or ()), len(way or ()))


if __name__ == "__main__":
    unittest.main()
