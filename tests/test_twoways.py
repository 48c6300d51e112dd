"""5.3: shortest and line_way; 5.4: fence_of and fence_holds; 5.5: never a fence and a way, ways turned about."""

import itertools
import unittest

from helper import FOUR, GREAT, LIMIT, ONE, THREE, TWO, deep, drawer, drawn, kinds_in, marked, refusal, refuses_tables
from helper import row_led, times, way_product, whatever
from noughtways.errors import NoLine, NoTable, TooGreat
from noughtways.ranks import line_of, rank
from noughtways.tables import along, turned
from noughtways.twoways import fence_holds, fence_of, line_way, shortest
from test_lines import small_lines, wrong_lines

NONE = ((0, 0), (0, 0))
STAY = ((1, 0), (0, 1))
RIGHT = ((0, 1), (0, 0))
LEFT = ((0, 0), (1, 0))
SWAP = ((0, 1), (1, 0))
TURN = ((0, 1), (-1, 0))
STEP = ((1, 1), (0, 1))
LOW = ((1, 0), (1, 1))
UPPER = ((1, 0), (0, 0))


def losing(line, made):
    """A table of rank 1 that loses the one line and makes the other one."""
    return ((line[1] * made[0], line[1] * made[1]), (-line[0] * made[0], -line[0] * made[1]))


def first_by_all(tables, most):
    """The first way to nought of at most so many places, all ways gone through, as they grow and rise."""
    level = [((at,), tables[at]) for at in range(len(tables))]
    for places in range(most):
        for way, table in level:
            if table == NONE:
                return way
        if places + 1 < most:
            level = [(way + (at,), times(table, tables[at])) for way, table in level for at in range(len(tables))]
    return None


def line_by_all(tables, line, most):
    level = [((), line)]
    for places in range(most):
        level = [(way + (at,), row_led(row, tables[at])) for way, row in level for at in range(len(tables))]
        for way, row in level:
            if not any(row):
                return way
    return None


def some_lists():
    draw = drawer(53)
    told = [[NONE], [STAY], [RIGHT], [RIGHT, LEFT], [SWAP, UPPER], [TURN, UPPER], [STEP, RIGHT], [STEP, LOW, TWO],
            [GREAT], [TWO, NONE], [NONE, NONE]]
    for often in range(60):
        many = draw.randint(1, 3)
        told.append([drawn(draw, 2, -1, 1) for at in range(many)])
        told.append([drawn(draw, 2, -2, 2) for at in range(many)])
        lines = [draw.choice(small_lines()) for at in range(4)]
        told.append([losing(lines[0], lines[1])] + [drawn(draw, 2, -2, 2) for at in range(many - 1)])
        told.append([draw.choice((STEP, LOW, SWAP, TURN)), losing(lines[0], lines[1]), losing(lines[2], lines[3])])
        told.append([draw.choice((STEP, LOW, SWAP, TURN)), draw.choice((STEP, LOW)), losing(lines[0], lines[1])])
    for tables in told:
        draw.shuffle(tables)
    return told


class TestShortest(unittest.TestCase):

    def test_worked_out_by_hand(self):
        for tables, most, due in (
                ([NONE], 1, (0,)), ([NONE], 12, (0,)), ([STAY], 12, None), ([STAY, NONE, NONE], 12, (1,)),
                ([RIGHT, NONE], 12, (1,)), ([RIGHT], 1, None), ([RIGHT], 2, (0, 0)), ([RIGHT], 12, (0, 0)),
                ([RIGHT, LEFT], 5, (0, 0)), ([UPPER, SWAP], 2, None), ([UPPER, SWAP], 3, (0, 1, 0)),
                ([SWAP, UPPER], 12, (1, 0, 1)), ([TURN, UPPER], 12, (1, 0, 1)), ([UPPER, ((0, 0), (0, 1))], 12, (0, 1)),
                ([STEP, LOW], 12, None), ([TWO, GREAT], 12, None), ([((1, 1), (1, 1))], 12, None),
                ([((1, -1), (1, -1))], 12, (0, 0)), ([((1, 1), (1, 1)), ((1, 0), (0, -1))], 12, (0, 1, 0)),
                ([((1, 1), (1, 1)), ((1, 0), (0, -1)), ((-1, 0), (0, 1))], 12, (0, 1, 0)),
                ([((1, 1), (1, 1)), ((1, 1), (-1, -1))], 12, (0, 1))):
            self.assertEqual(kinds_in(shortest(tables, most)), kinds_in(due), (tables, most))

    def test_each_length_up_to_twelve(self):
        for steps in range(11):
            tables = [STEP, losing((1, steps), (1, 0))]
            due = (1,) + (0,) * steps + (1,)
            for most in range(1, 13):
                self.assertEqual(shortest(tables, most), due if most >= len(due) else None)
                other = tuple([1 - at for at in due])
                self.assertEqual(shortest(tables[::-1], most), other if most >= len(due) else None)
        self.assertIsNone(shortest([STEP, losing((1, 11), (1, 0))], 12))

    def test_against_all_ways_gone_through(self):
        found = {}
        for tables in some_lists():
            way = first_by_all(tables, 6)
            found[way and len(way)] = found.get(way and len(way), 0) + 1
            for most in (1, 2, 3, 4, 5, 6):
                due = way if way is not None and len(way) <= most else None
                self.assertEqual(shortest(tables, most), due, (tables, most))
        self.assertGreater(min(found[many] for many in (None, 1, 2, 3, 4, 5)), 1, found)

    def test_against_all_long_ways_of_two_tables(self):
        draw = drawer(54)
        for often in range(6):
            line, made = draw.sample(small_lines(), 2)
            tables = [draw.choice((STEP, LOW, TURN, ((1, 2), (0, 1)))), losing(line, made)]
            self.assertEqual(shortest(tables, 10), first_by_all(tables, 10), tables)

    def test_four_tables_and_twelve_places(self):
        draw = drawer(55)
        high = [drawn(draw, 2, 1 - LIMIT, LIMIT - 1) for at in range(3)]
        self.assertIsNone(shortest(high + [losing((1, 2), (3, 4))], 12))
        way = (3,) + tuple([draw.randrange(3) for at in range(10)]) + (3,)
        line = (3, 4)
        for at in way[1:-1]:
            line = line_of(row_led(line, high[at]))
        tables = high + [losing(line, (3, 4))]
        self.assertEqual(shortest(tables, 12), way)
        self.assertIsNone(shortest(tables, 11))
        self.assertEqual(line_way(tables, (3, 4), 12), way[1:])
        self.assertIsNone(line_way(tables, (3, 4), 10))

    def test_the_first_of_several(self):
        two = ((2, 0), (0, 2))
        for tables in itertools.permutations((SWAP, UPPER, TURN, two)):
            tables = list(tables)
            due = min((tables.index(UPPER), tables.index(table), tables.index(UPPER)) for table in (SWAP, TURN))
            self.assertEqual(shortest(tables, 12), due)
        self.assertEqual(shortest([UPPER, UPPER, SWAP, SWAP], 12), (0, 2, 0))
        self.assertEqual(shortest([SWAP, UPPER, UPPER, SWAP], 12), (1, 0, 1))

    def test_the_first_of_many_that_lead_the_same_lines(self):
        twice, thrice = ((2, 0), (0, 1)), ((3, 0), (0, 1))
        for one, other in itertools.product(range(4), repeat=2):
            last = losing(line_of((2 ** one * 3 ** other, 1)), (1, 1))
            for tables in itertools.permutations((twice, thrice, last)):
                first, then, end = [tables.index(table) for table in (twice, thrice, last)]
                due = (end,) + tuple(sorted([first] * one + [then] * other)) + (end,)
                self.assertEqual(shortest(list(tables), 12), due)
                self.assertEqual(line_way(list(tables), (1, 1), 12), due[1:])
                self.assertEqual(line_way(list(tables), (0, 1), 12), due)

    def test_no_places_at_most(self):
        for tables in ([NONE], [RIGHT], [STAY]):
            self.assertIsNone(shortest(tables, 0))
            self.assertIsNone(line_way(tables, (0, 1), 0))


class TestLineWay(unittest.TestCase):

    def test_worked_out_by_hand(self):
        for tables, line, most, due in (
                ([NONE], (1, 0), 1, (0,)), ([STAY], (1, 0), 12, None), ([RIGHT], (0, 1), 1, (0,)),
                ([RIGHT], (1, 0), 1, None), ([RIGHT], (1, 0), 2, (0, 0)), ([RIGHT], (2, -3), 12, (0, 0)),
                ([STAY, RIGHT, NONE], (0, 1), 12, (1,)), ([STAY, RIGHT, NONE], (1, 0), 12, (2,)),
                ([SWAP, UPPER], (0, 1), 12, (1,)), ([SWAP, UPPER], (1, 0), 12, (0, 1)),
                ([SWAP, UPPER], (1, 1), 12, (1, 0, 1)),
                ([STEP, LOW], (1, 0), 12, None), ([UPPER], (1, 0), 12, None), ([UPPER], (0, 1), 12, (0,)),
                ([STEP, losing((1, 0), (2, 3))], (1, -5), 12, (0, 0, 0, 0, 0, 1)),
                ([STEP, losing((1, 0), (2, 3))], (1, -5), 5, None), ([STEP, losing((1, 0), (2, 3))], (0, 1), 12, None),
                ([STEP, losing((1, 3), (1, 0))], (0, 1), 12, (1, 0, 0, 0, 1)),
                ([STEP, losing((1, 3), (1, 0))], (1, -1), 12, (0, 0, 0, 0, 1)),
                ([STEP, losing((1, 3), (1, 0))], (1, -2), 12, (1, 0, 0, 0, 1))):
            self.assertEqual(kinds_in(line_way(tables, line, most)), kinds_in(due), (tables, line, most))

    def test_against_all_ways_gone_through(self):
        found = {}
        draw = drawer(56)
        for tables in some_lists():
            for line in draw.sample(small_lines(), 3):
                way = line_by_all(tables, line, 6)
                found[way and len(way)] = found.get(way and len(way), 0) + 1
                for most in (1, 2, 3, 4, 5, 6):
                    due = way if way is not None and len(way) <= most else None
                    self.assertEqual(line_way(tables, line, most), due, (tables, line, most))
        self.assertGreater(min(found[many] for many in (None, 1, 2, 3, 4, 5)), 1, found)

    def test_each_length_up_to_twelve(self):
        for steps in range(12):
            tables = [STEP, losing((1, steps), (0, 1))]
            due = (0,) * steps + (1,)
            for most in range(1, 13):
                self.assertEqual(line_way(tables, (1, 0), most), due if most >= len(due) else None)
        self.assertIsNone(line_way([STEP, losing((1, 12), (0, 1))], (1, 0), 12))

    def test_a_way_to_nought_leads_each_line_there(self):
        for tables in some_lists():
            way = shortest(tables, 6)
            if way is not None:
                for line in small_lines():
                    self.assertLessEqual(len(line_way(tables, line, 6)), len(way))


class TestRefusals(unittest.TestCase):

    calls = ((shortest, (3,)), (shortest, (13,)), (line_way, ((1, 0), 3)), (line_way, (None, 13)),
             (line_way, ((2, 0), 99)), (fence_of, (5,)), (fence_holds, ([],)), (fence_holds, (None,)))

    def test_no_tables_ahead_of_all(self):
        for call, handed in self.calls:
            refuses_tables(self, call, *handed)

    def test_other_sizes(self):
        for call, handed in self.calls:
            for table in (THREE, FOUR, ((0,) * 3,) * 3, ((10 ** 99,) * 4,) * 4):
                for many in range(1, 5):
                    error = refusal(self, TooGreat, call, [table] * many, *handed)
                    self.assertEqual(kinds_in((error.many, error.most)), kinds_in((len(table), 2)))
            for table in (ONE, ((0,),)):
                for many in range(1, 5):
                    refusal(self, NoTable, call, [table] * many, *handed)

    def test_no_line_ahead_of_too_great(self):
        for thing in wrong_lines():
            for most in (1, 12, 13, 10 ** 9):
                for tables in ([TWO], [NONE], [SWAP, UPPER], [GREAT]):
                    refusal(self, NoLine, line_way, tables, thing, most)

    def test_above_twelve(self):
        for most in (13, 14, 60, 10 ** 99):
            for tables in ([TWO], [NONE], [SWAP, UPPER], [GREAT]):
                for call, handed in ((shortest, (most,)), (line_way, ((1, 0), most)), (line_way, ((3, -7), most))):
                    error = refusal(self, TooGreat, call, tables, *handed)
                    self.assertEqual(kinds_in((error.many, error.most)), kinds_in((most, 12)))
        self.assertEqual(shortest([NONE], 12), (0,))


def made_of(tables):
    return [line_of([row for row in table if any(row)][0]) for table in tables if rank(table) == 1]


def is_fence(tables, fence):
    """By the words of 5.4, of a list of lines."""
    return (fence == sorted(fence) and len(fence) == len(set(fence)) and NONE not in tables
            and all(line in fence for line in made_of(tables))
            and all(line_of(row_led(line, table)) in fence for line in fence for table in tables))


def closed_by(tables, most):
    """All lines to which the made ones are led, None where one is lost, a table is nought, or there are more."""
    lines = sorted(set(made_of(tables)))
    while NONE not in tables and len(lines) <= most:
        met = [line_of(row_led(line, table)) for line in lines for table in tables]
        if None in met:
            return None
        if set(met) <= set(lines):
            return lines
        lines = sorted(set(lines) | set(met))
    return None


# Tables that lead lines round in rings.
ROUND = [STAY, SWAP, TURN, ((1, 0), (0, -1)), ((0, 1), (-1, 1)), ((0, 1), (-1, -1)), ((1, 1), (1, -1)), UPPER, TWO,
         ((1, 1), (1, 1)), ((1, 2), (1, 2)), ((2, 1), (4, 2)), ((0, 0), (1, 3)), ((1, 1), (0, 0)), STEP, RIGHT, NONE]


class TestFenceOf(unittest.TestCase):

    def test_worked_out_by_hand(self):
        for tables, most, due in (
                ([STAY], 1, []), ([STEP, LOW, SWAP], 60, []), ([TWO], 1, []), ([GREAT], 1, []), ([NONE], 60, None),
                ([STAY, NONE], 60, None), ([UPPER], 1, [(1, 0)]), ([UPPER, SWAP], 60, None), ([RIGHT], 60, None),
                ([((1, 1), (1, 1))], 1, [(1, 1)]), ([((1, 1), (1, 1)), SWAP], 60, [(1, 1)]),
                ([((1, 2), (1, 2)), SWAP], 1, None), ([((1, 2), (1, 2)), SWAP], 2, [(1, 2), (2, 1)]),
                ([((1, 2), (1, 2)), TURN], 2, [(1, 2), (2, -1)]), ([((1, 2), (2, 4)), TURN], 60, None),
                ([((1, 2), (1, 2)), ((1, 0), (0, -1))], 60, [(1, -2), (1, 2)]), ([STEP, ((1, 0), (1, 0))], 60, None),
                ([STEP, ((0, 1), (0, 1))], 60, [(0, 1)]), ([((1, 1), (1, 1)), ((1, 2), (1, 2))], 60, [(1, 1), (1, 2)]),
                ([((1, 1), (1, 1)), ((1, 2), (1, 2))], 1, None), ([((-3, 0), (0, 0))], 60, [(1, 0)])):
            self.assertEqual(kinds_in(fence_of(tables, most)), kinds_in(due), (tables, most))

    def test_against_all_lines_that_are_met(self):
        found = 0
        for tables in some_lists() + [list(pair) for pair in itertools.product(ROUND, repeat=2)]:
            for most in (1, 2, 3, 5, 12):
                due = closed_by(tables, most)
                self.assertEqual(kinds_in(fence_of(tables, most)), kinds_in(due), (tables, most))
                if due:
                    found += 1
                    self.assertTrue(is_fence(tables, due))
                    self.assertIs(fence_holds(tables, due), True)
        self.assertGreater(found, 200)

    def test_the_number_of_lines_is_the_bound(self):
        six = [((1, 3), (2, 6)), ((0, 1), (-1, 1))]
        fence = fence_of(six, 60)
        self.assertEqual(fence, closed_by(six, 60))
        self.assertEqual(len(fence), 3)
        self.assertEqual([fence_of(six, most) for most in range(1, 6)], [None, None, fence, fence, fence])

    def test_lines_without_end(self):
        draw = drawer(57)
        for table in (STEP, LOW, drawn(draw, 2, 1, LIMIT - 1)):
            self.assertIsNone(fence_of([table, table, ((2, 3), (2, 3))], 60))
            self.assertIsNone(fence_of([table, ((2, 3), (2, 3)), ((5, 7), (5, 7)), table], 60))

    def test_the_list_is_the_askers_own(self):
        for tables, due in (([STAY], []), ([((1, 2), (1, 2)), SWAP], [(1, 2), (2, 1)])):
            told = fence_of(tables, 9)
            told.append(None)
            told[0] = ()
            self.assertEqual(fence_of(tables, 9), due)


class TestFenceHolds(unittest.TestCase):

    def holds(self, tables, thing, due):
        self.assertIs(fence_holds(tables, thing), due, (tables, thing))

    def test_lists_by_anybody(self):
        lines = [(0, 1), (1, -1), (1, 0), (1, 1), (1, 2), (2, 1)]
        lists = [list(one) for many in range(4) for one in itertools.product(lines, repeat=many)]
        held = 0
        for tables in itertools.product(ROUND, repeat=2):
            for fence in lists[:7] + lists[7::3]:
                due = is_fence(list(tables), fence)
                held += due
                self.holds(list(tables), fence, due)
        self.assertGreater(held, 200)

    def test_the_list_without_lines(self):
        self.holds([STAY], [], True)
        self.holds([STEP, LOW, TWO, GREAT], [], True)
        self.holds([STEP, LOW, TWO, UPPER], [], False)
        self.holds([NONE], [], False)
        self.holds([STAY, NONE], [], False)
        self.holds([((1, 1), (1, 1))], [], False)

    def test_a_table_that_is_nought(self):
        for fence in ([], [(1, 0)], [(0, 1), (1, 0)]):
            self.holds([STAY], fence, True)
            for tables in ([NONE], [NONE, STAY], [STAY, STAY, STAY, NONE]):
                self.holds(tables, fence, False)

    def test_lines_that_are_not_needed(self):
        self.holds([STAY], small_lines(), True)
        self.holds([SWAP], [(0, 1), (1, 0)], True)
        self.holds([SWAP], [(0, 1)], False)
        self.holds([((1, 1), (1, 1))], [(1, 0), (1, 1), (7, 9)], True)
        self.holds([((1, 1), (1, 1))], [(1, -1), (1, 1)], False)
        self.holds([STEP], [(0, 1)], True)
        self.holds([STAY], [(10 ** 99, 1)], True)

    def test_lists_with_one_thing_otherwise(self):
        tables = [((1, 2), (1, 2)), SWAP, ((1, 0), (0, -1))]
        fence = [(1, -2), (1, 2), (2, -1), (2, 1)]
        self.holds(tables, fence, True)
        for order in itertools.permutations(fence):
            self.holds(tables, list(order), list(order) == fence)
        self.holds(tables, fence + [(3, 1)], False)
        for at, line in enumerate(fence):
            self.holds(tables, fence[:at] + fence[at + 1:], False)
            self.holds(tables, fence[:at] + [line] + fence[at:], False)
            for thing in wrong_lines() + [list(line), line + (0,), tuple([3 * number for number in line]), (line,),
                                          tuple([-number for number in line]), line[:1]]:
                self.holds(tables, fence[:at] + [thing] + fence[at + 1:], False)
                self.holds(tables, fence[:at] + [thing] + fence[at:], False)

    def test_whatever_is_handed_in(self):
        for table in (STAY, STEP, GREAT):
            for thing in whatever() + [((1, 0),), {(1, 0): True}, deep([(0, 1)], 17), "(0, 1)", [[0, 1]]]:
                self.holds([table], thing, kinds_in(thing) == kinds_in([]))
                self.holds([table], [thing], False)
                self.holds([table], [(0, 1), thing], False)
        for thing in whatever():
            self.holds([UPPER], thing, False)
            self.holds([NONE], thing, False)

    def test_truths_are_no_numbers(self):
        self.holds([UPPER], [(1, 0)], True)
        for thing in ((True, 0), (1, False), (True, False)):
            self.holds([UPPER], [thing], False)


class TestFencesAndWays(unittest.TestCase):

    def test_never_both(self):
        fenced, led = 0, 0
        for tables in some_lists() + [list(pair) for pair in itertools.product(ROUND, repeat=2)]:
            fence = fence_of(tables, 60)
            way = shortest(tables, 12)
            self.assertTrue(fence is None or way is None, tables)
            fenced += fence is not None
            led += way is not None
            if way is not None:
                for lines in ([], made_of(tables), small_lines()):
                    self.assertIs(fence_holds(tables, sorted(set(lines))), False)
        self.assertGreater(min(fenced, led), 100)

    def test_no_way_where_a_fence_is_told(self):
        for tables in itertools.product(ROUND, repeat=2):
            if fence_of(list(tables), 60) is not None:
                self.assertIsNone(first_by_all(tables, 6))
                for most in range(1, 13):
                    self.assertIsNone(shortest(list(tables), most))

    def test_a_way_turned_about_is_one_of_the_turned_tables(self):
        for tables in some_lists():
            way = shortest(tables, 12)
            other = shortest([turned(table) for table in tables], 12)
            self.assertEqual(way is None, other is None)
            if way is not None:
                self.assertEqual(len(way), len(other))
                self.assertEqual(along([turned(table) for table in tables], way[::-1]), NONE)
                self.assertEqual(way_product(tables, other[::-1]), NONE)

    def test_tables_that_were_told(self):
        great = along([((LIMIT - 1, 5), (3, LIMIT - 2))], (0,) * 60)
        tables = [great, losing(great[0], (1, 0)), marked(great, 0, 0, 0)]
        self.assertEqual(shortest(tables, 12), first_by_all(tables, 3))
        self.assertEqual(line_way([great, losing(line_of(great[0]), (1, 0))], (1, 0), 12), (0, 1))
        self.assertEqual(fence_of([great], 60), [])
        self.assertIs(fence_holds([losing(great[0], (1, 0))], [(1, 0)]), True)


if __name__ == "__main__":
    unittest.main()
