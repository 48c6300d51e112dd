"""6.3: row_fence, row_fence_holds; 6.4: column_holds, column_of."""

import itertools
import unittest

from helper import FOUR, GREAT, LIMIT, ONE, TWO, deep, drawer, drawn, fading, kinds_in, nought
from helper import row_led, shut, times, units, ways_of, whatever, wrong_rows
from noughtways.rowways import column_holds, column_of, lost_by, lost_in, row_along, row_fence, row_fence_holds
from noughtways.tables import along

RESTS = range(2, 8)
RIGHT = ((0, 1), (0, 0))
SWAP = ((0, 1), (1, 0))
STEP = ((1, 1), (0, 1))
LOW = ((1, 0), (1, 1))
TURN = ((0, 1, 0), (0, 0, 1), (1, 0, 0))
STAY_THREE = shut(units(3))
STAY_FOUR = shut(units(4))


def rests(row, m):
    return tuple([number % m for number in row])


def is_fence(tables, row, m, fence):
    """By the words of 6.3, of a list of rows of rests."""
    return (fence == sorted(fence) and len(fence) == len(set(fence)) and (0,) * len(row) not in fence
            and rests(row, m) in fence
            and all(rests(row_led(one, table), m) in fence for one in fence for table in tables))


def met_by(tables, row, m):
    met = {rests(row, m)}
    while True:
        more = met | {rests(row_led(one, table), m) for one in met for table in tables}
        if more == met:
            return sorted(met)
        met = more


def some_questions():
    draw = drawer(63)
    told = [([ONE], (1,)), ([((2,),)], (3,)), ([((-1,),), ((3,),)], (1,)), ([SWAP], (1, 0)), ([SWAP, STEP], (1, 1)),
            ([RIGHT], (1, 0)), ([TURN], (1, 2, 0)), ([STAY_FOUR], (1, 0, 0, 6)), ([GREAT], (LIMIT, 1))]
    for often in range(20):
        for size in (1, 2, 3):
            many = draw.randint(1, 3)
            row = tuple([draw.randint(-5, 5) for place in range(size)])
            told.append(([drawn(draw, size, -2, 2) for at in range(many)], row))
            told.append((fading(draw, size, many), row))
    return told


class TestRowFence(unittest.TestCase):

    def test_worked_out_by_hand(self):
        for tables, row, m, due in (
                ([ONE], (1,), 2, [(1,)]), ([ONE], (1,), 7, None), ([ONE], (0,), 2, None), ([ONE], (6,), 3, None),
                ([((2,),)], (1,), 7, [(1,), (2,), (4,)]), ([((2,),)], (-1,), 7, [(3,), (5,), (6,)]),
                ([((2,),)], (1,), 6, [(1,), (2,), (4,)]), ([((2,),)], (1,), 4, None), ([((2,),)], (3,), 6, None),
                ([SWAP], (1, 0), 3, [(0, 1), (1, 0)]), ([SWAP], (1, 1), 2, [(1, 1)]), ([SWAP], (3, 6), 3, None),
                ([STEP], (1, 0), 3, [(1, 0), (1, 1), (1, 2)]), ([STEP], (0, -1), 5, [(0, 4)]),
                ([RIGHT], (1, 0), 7, None), ([STEP, SWAP], (1, 0), 2, [(0, 1), (1, 0), (1, 1)]),
                ([TURN], (1, 0, 0), 2, [(0, 0, 1), (0, 1, 0), (1, 0, 0)]),
                ([STAY_FOUR], (8, 9, 10, 11), 7, [(1, 2, 3, 4)]), ([((10 ** 99,),)], (10 ** 99,), 3, [(1,)])):
            self.assertEqual(kinds_in(row_fence(tables, row, m)), kinds_in(due), (tables, row, m))

    def test_of_as_few_rows_as_can_be_or_a_way_never_both(self):
        fenced = 0
        for tables, row in some_questions():
            for m in RESTS if len(row) < 3 else (2, 3, 5):
                fence = row_fence(tables, row, m)
                self.assertEqual(fence is None, lost_by(tables, row, m) is not None, (tables, row, m))
                met = met_by(tables, row, m)
                self.assertEqual(fence, None if (0,) * len(row) in met else met)
                if fence is not None:
                    fenced += 1
                    self.assertIs(row_fence_holds(tables, row, m, fence), True)
        self.assertGreater(fenced, 100)

    def test_where_there_is_one_no_way_leads_the_row_to_nought(self):
        for tables, row in some_questions():
            ways = [way for places in range(4) for way in ways_of(len(tables), places)]
            lost = any(not any(row_along(tables, row, way)) for way in ways)
            if any(row_fence(tables, row, m) is not None for m in RESTS):
                self.assertFalse(lost)
                self.assertIsNone(lost_in(tables, row, 4))

    def test_the_list_is_the_askers_own(self):
        told = row_fence([SWAP], (1, 0), 2)
        told.append(None)
        told[0] = ()
        self.assertEqual(row_fence([SWAP], (1, 0), 2), [(0, 1), (1, 0)])

    def test_four_places_by_seven(self):
        fence = row_fence([((0, 1, 0, 0), (0, 0, 1, 0), (0, 0, 0, 1), (1, 1, 0, 0))], (1, 2, 3, 4), 7)
        self.assertTrue(is_fence([((0, 1, 0, 0), (0, 0, 1, 0), (0, 0, 0, 1), (1, 1, 0, 0))], (1, 2, 3, 4), 7, fence))


class TestRowFenceHolds(unittest.TestCase):

    def holds(self, tables, row, m, thing, due):
        self.assertIs(row_fence_holds(tables, row, m, thing), due, (tables, row, m, thing))

    def test_all_lists_of_size_one(self):
        for m in RESTS:
            ones = [(number,) for number in range(m)]
            lists = [(1,), (2,), (-1,), (2, 3), (0,), (m,)]
            for numbers, row in itertools.product(lists, ((1,), (-1,), (0,), (m + 2,))):
                tables = [((number,),) for number in numbers]
                for many in range(4):
                    for fence in itertools.product(ones, repeat=many):
                        self.holds(tables, row, m, list(fence), is_fence(tables, row, m, list(fence)))

    def test_all_lists_of_three_rows_by_two(self):
        ones = list(itertools.product(range(2), repeat=2))
        for tables in ([SWAP], [STEP], [STEP, SWAP], [RIGHT], [LOW, STEP], [TWO]):
            for row in ones:
                for many in range(5):
                    for fence in itertools.product(ones, repeat=many):
                        self.holds(tables, row, 2, list(fence), is_fence(tables, row, 2, list(fence)))

    def test_fences_by_anybody(self):
        self.holds([SWAP], (1, 0), 3, [(0, 1), (1, 0)], True)
        self.holds([SWAP], (1, 0), 3, [(0, 1), (1, 0), (1, 1)], True)
        self.holds([SWAP], (1, 0), 3, [(0, 1), (1, 0), (1, 1), (2, 2)], True)
        self.holds([SWAP], (1, 0), 3, [(0, 1), (1, 0), (1, 2)], False)
        self.holds([SWAP], (4, -3), 3, [(0, 1), (1, 0)], True)
        self.holds([SWAP], (1, 1), 3, [(0, 1), (1, 0)], False)
        self.holds([((2,),)], (1,), 6, [(1,), (2,), (4,), (5,)], True)
        self.holds([((2,),)], (1,), 6, [(number,) for number in range(1, 6)], False)
        self.holds([((8,),)], (-5,), 6, [(1,), (2,), (4,)], True)
        every = list(itertools.product(range(7), repeat=4))[1:]
        self.holds([STAY_FOUR], (1, 2, 3, 4), 7, every, True)
        self.holds([STAY_FOUR, FOUR], (1, 2, 3, 4), 7, every, False)

    def test_lists_with_one_thing_otherwise(self):
        for tables, row in some_questions():
            for m in (2, 3, 7) if len(row) < 3 else (2, 3):
                fence = row_fence(tables, row, m)
                if fence is None:
                    self.holds(tables, row, m, [one for one in met_by(tables, row, m) if any(one)], False)
                    continue
                self.holds(tables, row, m, [(0,) * len(row)] + fence, False)
                self.holds(tables, row, m, tuple(fence), False)
                for at in range(0, len(fence), 1 + len(fence) // 6):
                    one = fence[at]
                    for things in ([], [one, one], [list(one)], [(one[0] + m,) + one[1:]], [(one[0] - m,) + one[1:]],
                                   [one + (0,)], [one[1:]], [None], [(one[:-1] + (True,))], [(0,) * len(row)]):
                        self.holds(tables, row, m, fence[:at] + things + fence[at + 1:], False)
                if len(fence) > 1:
                    self.holds(tables, row, m, fence[::-1], False)
                    self.holds(tables, row, m, fence[1:] + fence[:1], False)

    def test_a_row_put_in(self):
        for tables, row in some_questions():
            for m in (2, 3):
                fence = row_fence(tables, row, m)
                for one in itertools.product(range(m), repeat=len(row)):
                    more = sorted((fence or []) + [one])
                    self.holds(tables, row, m, more, is_fence(tables, row, m, more))

    def test_numbers_from_nought_to_one_less_than_m(self):
        for m in RESTS:
            for size, stay in ((1, ((1,),)), (2, ((1, 0), (0, 1))), (3, STAY_THREE), (4, STAY_FOUR)):
                row = (1,) * size
                for at in range(size):
                    for number in (-m, -1, 0, 1, m - 1, m, m + 1, 10 ** 99):
                        other = row[:at] + (number,) + row[at + 1:]
                        self.holds([stay], row, m, sorted({row, other}), 0 <= number < m and any(other))

    def test_whatever_is_handed_in(self):
        for m in RESTS:
            for stay in (((1,),), ((1, 0), (0, 1)), STAY_THREE, STAY_FOUR):
                row = (1,) * len(stay)
                self.holds([stay], row, m, [row], True)
                self.holds([stay], row, m, row, False)
                for thing in whatever() + [(row,), {row: True}, deep([row], 17), str([row]), [[1] * len(stay)]]:
                    self.holds([stay], row, m, thing, False)
                    self.holds([stay], row, m, [thing], False)
                    self.holds([stay], row, m, [row, thing], False)
                    self.holds([stay], row, m, [thing, row], False)
                for thing in wrong_rows(len(stay)):
                    self.holds([stay], row, m, [row, thing], False)

    def test_truths_are_no_numbers(self):
        self.holds([((1,),)], (1,), 2, [(True,)], False)
        self.holds([((1, 0), (0, 1))], (0, 1), 2, [(False, 1)], False)
        self.holds([((1, 0), (0, 1))], (0, 1), 2, [(0, 1)], True)


def kept(table, column):
    """By the words of 6.4: whether some whole number other than 0 is the table's own."""
    sums = [sum(row[k] * column[k] for k in range(len(column))) for row in table]
    most = max([abs(number) for number in sums] + [1])
    return any(own and sums == [own * number for number in column] for own in range(-most, most + 1))


def is_column(tables, row, column):
    return (sum(one * other for one, other in zip(row, column)) != 0
            and all(kept(table, column) for table in tables))


def keeping(draw, column):
    """A table that has the column as its own, its number among small ones."""
    size = len(column)
    lead = [k for k in range(size) if abs(column[k]) == 1][0]
    own = draw.choice((-3, -2, -1, 1, 2, 3))
    rows = []
    for i in range(size):
        row = [draw.randint(-2, 2) for k in range(size)]
        row[lead] = 0
        row[lead] = column[lead] * (own * column[i] - sum(row[k] * column[k] for k in range(size)))
        rows.append(row)
    return shut(rows)


def kept_questions():
    """Tables, a row and a column that they keep."""
    draw = drawer(64)
    told = []
    for size in range(1, 5):
        for often in range(15):
            column = tuple([draw.randint(-2, 2) for k in range(size)])
            at = draw.randrange(size)
            column = column[:at] + (draw.choice((-1, 1)),) + column[at + 1:]
            tables = [keeping(draw, column) for table in range(draw.randint(1, 4))]
            told.append((tables, tuple([draw.randint(-3, 3) for k in range(size)]), column))
    return told


class TestColumnHolds(unittest.TestCase):

    def holds(self, tables, row, thing, due):
        self.assertIs(column_holds(tables, row, thing), due, (tables, row, thing))

    def test_worked_out_by_hand(self):
        for tables, row, column, due in (
                ([ONE], (1,), (1,), True), ([ONE], (1,), (-5,), True), ([ONE], (0,), (1,), False),
                ([ONE], (1,), (0,), False), ([((0,),)], (1,), (1,), False), ([((-3,),)], (2,), (1,), True),
                ([ONE, ((0,),)], (1,), (1,), False), ([SWAP], (1, 0), (1, 1), True), ([SWAP], (1, -1), (1, 1), False),
                ([SWAP], (1, -1), (1, -1), True), ([SWAP], (1, 1), (1, -1), False), ([SWAP], (1, 0), (1, 0), False),
                ([STEP], (5, 0), (1, 0), True), ([STEP], (0, 5), (1, 0), False), ([STEP], (0, 5), (0, 1), False),
                ([((2, 0), (0, -3))], (1, 0), (1, 0), True), ([((2, 0), (0, -3))], (1, 4), (0, 1), True),
                ([((2, 0), (0, -3))], (1, 4), (1, 1), False), ([((2, 0), (0, 0))], (1, 4), (0, 1), False),
                ([((2, 0), (0, -3)), SWAP], (1, 4), (1, 0), False), ([LOW, ((4, 0), (9, 4))], (0, 1), (0, 7), True),
                ([((1, 1), (1, 1))], (1, 0), (3, 3), True), ([((1, 1), (1, 1))], (1, 0), (3, -3), False),
                ([TURN], (1, 0, 0), (2, 2, 2), True), ([TURN], (1, 0, 0), (2, 2, 1), False),
                ([((1, 0), (0, 2))], (1, 1), (2, 1), False), ([((3, 3), (1, 1))], (1, 0), (3, 1), True),
                ([((1, 1), (2, 2))], (1, 1), (1, 2), True), ([((1, 2), (0, 0))], (1, 1), (2, 0), True),
                ([((0, 1), (1, 1))], (1, 1), (1, 2), False), ([STAY_FOUR], (1, 2, 3, 4), (4, 3, 2, -1), True),
                ([STAY_FOUR], (1, 2, 3, 4), (4, 0, 0, -1), False),
                ([((10 ** 11, 0), (0, -(10 ** 11)))], (1, 1), (10 ** 99, 0), True),
                ([GREAT], (10 ** 99, 7), (0, 10 ** 99), True), ([GREAT], (10 ** 99, 0), (0, 10 ** 99), False)):
            self.holds(tables, row, column, due)

    def test_columns_by_anybody(self):
        found = 0
        for tables, row, column in kept_questions():
            for often in (-7, -1, 1, 10 ** 30):
                taken = tuple([often * number for number in column])
                due = sum(one * other for one, other in zip(row, column)) != 0
                self.holds(tables, row, taken, due)
                found += due
        self.assertGreater(found, 100)

    def test_all_small_columns(self):
        draw = drawer(65)
        tables = [[drawn(draw, 2, -2, 2) for at in range(draw.randint(1, 2))] for often in range(60)]
        tables += [[SWAP], [STEP], [LOW, STEP], [TWO], [((2, 1), (1, 2)), SWAP], [nought(2)], [((0, 2), (3, -1))]]
        for one in tables:
            for row in ((1, 0), (1, -1), (2, 3)):
                for column in itertools.product(range(-4, 5), repeat=2):
                    self.holds(one, row, column, is_column(one, row, column))

    def test_columns_with_one_thing_otherwise(self):
        for tables, row, column in kept_questions():
            for at in range(len(column)):
                for number in (column[at] + 1, -column[at], 0, column[at] - 10 ** 9):
                    other = column[:at] + (number,) + column[at + 1:]
                    if max(map(abs, other)) < 100:
                        self.holds(tables, row, other, is_column(tables, row, other))
                for number in (None, True, False, str(column[at]), (column[at],), [], {}):
                    self.holds(tables, row, column[:at] + (number,) + column[at + 1:], False)
            for thing in (list(column), column + (0,), column[1:], column + column, (column,), [column]):
                self.holds(tables, row, thing, False)

    def test_an_own_number_below_0_never_0(self):
        for own in range(-3, 4):
            self.holds([((own, 5), (0, 4))], (1, 1), (1, 0), own != 0)
            self.holds([((4, 0), (5, own))], (1, 1), (0, 1), own != 0)
            self.holds([((1, 0), (0, 1)), ((own, 5), (0, 4))], (1, 1), (1, 0), own != 0)

    def test_an_own_number_is_whole(self):
        self.holds([((1, 1), (1, 1))], (1, 0), (2, 1), False)
        self.holds([((0, 1), (1, 0))], (1, 0), (2, 1), False)
        self.holds([((0, 3), (0, 1))], (1, 0), (2, 1), False)
        self.holds([((1, 0), (0, 2))], (1, 0), (1, 1), False)

    def test_whatever_is_handed_in(self):
        for stay in (((1,),), ((1, 0), (0, 1)), STAY_THREE, STAY_FOUR):
            row = (1,) * len(stay)
            self.holds([stay], row, row, True)
            for thing in whatever() + [list(row), {1: 1}, str(row), (row,), [row], deep(row, 18), row + (1,), row[1:]]:
                self.holds([stay], row, thing, False)
            for at in range(len(row)):
                for other in (None, True, False, "1", (1,), [1], {}):
                    self.holds([stay], row, row[:at] + (other,) + row[at + 1:], False)

    def test_where_there_is_one_no_way_leads_the_row_to_nought(self):
        for tables, row, column in kept_questions():
            if column_holds(tables, row, column):
                self.assertIsNone(lost_in(tables, row, 4))
                for way in [way for places in range(4) for way in ways_of(len(tables), places)]:
                    led = row_along(tables, row, way)
                    self.assertNotEqual(sum(one * other for one, other in zip(led, column)), 0)

    def test_tables_that_were_told(self):
        great = along([((10 ** 11, 1), (0, -(10 ** 11)))], (0,) * 200)
        self.holds([great], (1, 1), (1, 0), True)
        self.holds([great, times(great, great)], great[0], great[0], great[0][1] == 0)
        self.holds([great], (0, 1), (1, 0), False)


class TestColumnOf(unittest.TestCase):

    def test_worked_out_by_hand(self):
        for tables, row, due in (
                ([ONE], (1,), (-2,)), ([ONE], (0,), None), ([((0,),)], (1,), None), ([SWAP], (1, 0), (-2, -2)),
                ([SWAP], (1, -1), (-2, 2)), ([SWAP], (1, 1), (-2, -2)), ([STEP], (1, 0), (-2, 0)),
                ([STEP], (0, 1), None), ([LOW], (0, 1), (0, -2)), ([LOW, STEP], (1, 1), None),
                ([((1, 1), (2, 2))], (1, 1), (-1, -2)), ([((3, 3), (1, 1))], (1, 0), None),
                ([((1, 0), (0, 1))], (1, 1), (-2, -2)),
                ([((1, 0), (0, 1))], (1, -1), (-2, -1)), ([TURN], (1, 0, 0), (-2, -2, -2)), ([TURN], (1, 0, -1), None),
                ([STAY_FOUR], (0, 0, 0, 1), (-2, -2, -2, -2)), ([STAY_FOUR], (1, -1, 0, 0), (-2, -1, -2, -2)),
                ([STAY_FOUR], (0, 0, 0, 0), None), ([GREAT], (0, 1), (0, -2)), ([GREAT], (1, 0), (-2, 0))):
            self.assertEqual(kinds_in(column_of(tables, row)), kinds_in(due), (tables, row))

    def test_the_least_of_all_gone_through(self):
        found = 0
        for tables, row in some_questions() + [question[:2] for question in kept_questions()]:
            tuples = itertools.product(range(-2, 3), repeat=len(row))
            due = None
            if max(abs(number) for table in tables for line in table for number in line) < 200:
                due = next((column for column in tuples if is_column(tables, row, column)), None)
                self.assertEqual(column_of(tables, row), due, (tables, row))
            found += due is not None
        self.assertGreater(found, 40)

    def test_there_may_be_others(self):
        self.assertIsNone(column_of([((3, 3), (1, 1))], (1, 0)))
        self.assertIs(column_holds([((3, 3), (1, 1))], (1, 0), (3, 1)), True)


if __name__ == "__main__":
    unittest.main()
