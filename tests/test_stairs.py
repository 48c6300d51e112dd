"""3.2: stair_holds, of papers by anybody."""

import math
import unittest
from fractions import Fraction

from helper import FOUR, GREAT, ONE, THREE, TWO, deep, drawer, fading, refuses_tables, row_led, units, whatever
from noughtways.allways import stair_holds, stair_of

RIGHT = ((0, 1), (0, 0))
FALL = ((0, 1, 0, 0), (0, 0, 1, 0), (0, 0, 0, 1), (0, 0, 0, 0))
FALL_STAIR = [units(4), units(4)[1:], units(4)[2:], units(4)[3:]]
SLANT = ((1, -1), (1, -1))
NONE_THREE = ((0, 0, 0), (0, 0, 0), (0, 0, 0))


def spanned(rows):
    """How many rows, at most, are such that none is a sum of multiples of the others; by fractions."""
    rows = [[Fraction(number) for number in row] for row in rows]
    many = 0
    while rows:
        row = rows.pop()
        if any(row):
            many += 1
            at = [number != 0 for number in row].index(True)
            rows = [[a - other[at] / row[at] * b for a, b in zip(other, row)] for other in rows]
    return many


def is_line_of(thing, size):
    if type(thing) is not tuple or len(thing) != size or any(type(number) is not int for number in thing):
        return False
    return math.gcd(*thing) == 1 and [number for number in thing if number][0] > 0


def shows(tables, paper):
    """Whether the paper shows it, by the words of 3.2, apart from the package's own."""
    size = len(tables[0])
    if type(paper) is not list or not 1 <= len(paper) <= size or any(type(lines) is not list for lines in paper):
        return False
    if not all(is_line_of(line, size) for lines in paper for line in lines) or spanned(paper[0]) != size:
        return False
    for lines, later in zip(paper, paper[1:] + [[]]):
        for table in tables:
            if spanned(later + [row_led(line, table) for line in lines]) != spanned(later):
                return False
    return True


class TestStairHolds(unittest.TestCase):

    def holds(self, tables, paper, due=True):
        self.assertIs(stair_holds(tables, paper), due, (tables, paper))
        self.assertEqual(shows(tables, paper), due, (tables, paper))

    def test_papers_that_show_it(self):
        self.holds([((0,),)], [[(1,)]])
        self.holds([RIGHT], [[(1, 0), (0, 1)], [(0, 1)]])
        self.holds([RIGHT, ((0, -5), (0, 0))], [[(1, 1), (1, -1)], [(0, 1)]])
        self.holds([SLANT], [[(1, 0), (0, 1)], [(1, -1)]])
        self.holds([SLANT], [[(3, 7), (2, -5)], [(1, -1)]])
        self.holds([FALL], FALL_STAIR)
        self.holds([FALL] * 4, FALL_STAIR)
        self.holds([NONE_THREE], [units(3)])
        self.holds([((0, 0, 5), (0, 0, 0), (0, 0, 0))], [units(3), [(0, 0, 1)]])
        self.holds([((0, 10 ** 99), (0, 0))], [[(1, 0), (10 ** 99, 1)], [(0, 1)]])

    def test_lines_that_are_not_needed(self):
        self.holds([RIGHT], [[(1, 0), (0, 1), (5, 7), (1, -1)], [(0, 1)]])
        self.holds([RIGHT], [[(1, 0), (1, 0), (0, 1)], [(0, 1), (0, 1), (0, 1)]])
        self.holds([NONE_THREE], [units(3) * 9, units(3), units(3)[1:]])
        self.holds([((0, 0, 5), (0, 0, 0), (0, 0, 0))], [units(3), [(0, 1, 0), (0, 0, 1), (0, 3, 1)], []])
        self.holds([RIGHT], [[(1, 0), (0, 1)], [(1, 0), (0, 1)]], False)
        self.holds([FALL], [units(4), units(4), units(4)[2:], units(4)[3:]], False)

    def test_lists_without_lines(self):
        self.holds([((0, 0), (0, 0))], [[(1, 0), (0, 1)], []])
        self.holds([NONE_THREE], [units(3), [], []])
        self.holds([NONE_THREE], [units(3), [], [(1, 0, 0)]])
        self.holds([NONE_THREE] * 2, [units(3), [(1, 5, 6)], []])
        self.holds([((0, 0, 5), (0, 0, 0), (0, 0, 0))], [units(3), [(0, 0, 1)], []])
        self.holds([((0, 0, 5), (0, 0, 0), (0, 0, 0))], [units(3), [], [(0, 0, 1)]], False)
        self.holds([RIGHT], [[], []], False)
        self.holds([((0, 0), (0, 0))], [[], [(1, 0), (0, 1)]], False)
        self.holds([((0, 0), (0, 0))], [[]], False)
        self.holds([((0,),)], [[]], False)

    def test_a_list_left_out_put_in_or_out_of_its_place(self):
        for at in range(4):
            self.holds([FALL], FALL_STAIR[:at] + FALL_STAIR[at + 1:], False)
        for at in range(5):
            self.holds([FALL], FALL_STAIR[:at] + [[]] + FALL_STAIR[at:], False)
            self.holds([FALL], FALL_STAIR[:at] + [units(4)] + FALL_STAIR[at:], False)
        self.holds([FALL], FALL_STAIR[::-1], False)
        self.holds([FALL], [FALL_STAIR[0], FALL_STAIR[2], FALL_STAIR[1], FALL_STAIR[3]], False)
        short = [units(3), [(0, 0, 1)]]
        tables = [((0, 0, 5), (0, 0, 0), (0, 0, 0))]
        self.holds(tables, short)
        self.holds(tables, short[:1], False)
        self.holds(tables, short[1:], False)
        self.holds(tables, [short[0], [], short[1]], False)
        self.holds(tables, [short[0], short[1], short[1]])

    def test_too_many_lists_and_none(self):
        self.holds([((0,),)], [[(1,)], []], False)
        self.holds([((0,),)], [[(1,)], [(1,)]], False)
        self.holds([RIGHT], [[(1, 0), (0, 1)], [(0, 1)], []], False)
        self.holds([((0, 0), (0, 0))], [[(1, 0), (0, 1)], [], []], False)
        self.holds([FALL], FALL_STAIR + [[]], False)
        for table in (((0,),), RIGHT, NONE_THREE, FALL):
            self.holds([table], [], False)

    def test_a_line_left_out(self):
        for at in range(4):
            for k in range(len(FALL_STAIR[at])):
                paper = [list(lines) for lines in FALL_STAIR]
                paper[at].pop(k)
                self.holds([FALL], paper, False)

    def test_the_first_list_spans_all_rows(self):
        self.holds([((0, 0), (0, 0))], [[(1, 1), (1, 1)]], False)
        self.holds([((0, 0), (0, 0))], [[(1, 1), (1, 2)]])
        self.holds([NONE_THREE], [[(1, 2, 3), (4, 5, 6), (7, 8, 9)]], False)
        self.holds([NONE_THREE], [[(1, 2, 3), (4, 5, 6), (7, 8, 10)]])
        self.holds([NONE_THREE], [[(1, 0, 0), (0, 1, 0), (1, 1, 0), (1, -1, 0)], units(3)], False)
        self.holds([((0,) * 4,) * 4], [[(1, 0, 0, 1), (0, 1, 0, 1), (0, 0, 1, 1), (1, 1, 1, 3)]], False)

    def test_all_tables_are_asked(self):
        for at in range(4):
            tables = [FALL] * 4
            self.holds(tables, FALL_STAIR)
            tables[at] = ((0, 0, 0, 0), (0, 0, 0, 0), (0, 0, 0, 0), (0, 0, 1, 0))
            self.holds(tables, FALL_STAIR, False)
        self.holds([SLANT, RIGHT], [[(1, 0), (0, 1)], [(1, -1)]], False)
        self.holds([SLANT, RIGHT], [[(1, 0), (0, 1)], [(0, 1)]], False)
        self.holds([SLANT, RIGHT], [[(1, 0), (0, 1)], [(1, -1), (0, 1)]], False)

    def bent(self, at, k, thing):
        paper = [list(lines) for lines in FALL_STAIR]
        paper[at][k] = thing
        self.assertIs(stair_holds([FALL], paper), False, thing)

    def test_what_is_no_line(self):
        for at in range(4):
            for k in range(len(FALL_STAIR[at])):
                line = FALL_STAIR[at][k]
                self.bent(at, k, tuple([2 * number for number in line]))
                self.bent(at, k, tuple([-number for number in line]))
                self.bent(at, k, line + (0,))
                self.bent(at, k, line[:3])
                self.bent(at, k, list(line))
                self.bent(at, k, (0, 0, 0, 0))
                self.bent(at, k, ())
                self.bent(at, k, tuple([bool(number) for number in line]))
                self.bent(at, k, tuple([number or False for number in line]))
                self.bent(at, k, tuple([number and True for number in line]))
                self.bent(at, k, tuple([str(number) for number in line]))
                self.bent(at, k, tuple([None if number == 0 else number for number in line]))
                self.bent(at, k, {line: line})
                self.bent(at, k, (line,))
                self.bent(at, k, [line])
                for thing in whatever():
                    self.bent(at, k, thing)
        self.holds([RIGHT], [[(1, 0), (0, 1), (2, 4)], [(0, 1)]], False)
        self.holds([RIGHT], [[(1, 0), (0, 1)], [(0, 1), (0, 0)]], False)
        self.holds([RIGHT], [[(1, 0), (0, 1)], [(0, 10 ** 99)]], False)
        self.holds([RIGHT], [[(1, 0), (0, 1)], [(0, -1)]], False)
        self.holds([RIGHT], [[(1, 0), (0, 1), (-1, 1)], [(0, 1)]], False)
        self.holds([((0,),)], [[(2,)]], False)
        self.holds([((0,),)], [[(-1,)]], False)
        self.holds([((0,),)], [[(True,)]], False)

    def test_tuples_in_the_place_of_lists(self):
        self.holds([FALL], tuple(FALL_STAIR), False)
        for at in range(4):
            paper = [list(lines) for lines in FALL_STAIR]
            paper[at] = tuple(paper[at])
            self.holds([FALL], paper, False)
            paper[at] = {line: True for line in FALL_STAIR[at]}
            self.holds([FALL], paper, False)
        self.holds([((0,),)], [((1,),)], False)
        self.holds([((0,),)], ([(1,)],), False)
        self.holds([((0, 0), (0, 0))], [[(1, 0), (0, 1)], ()], False)
        self.holds([((0,),)], {0: [(1,)]}, False)

    def test_whatever_is_handed_in(self):
        papers = whatever() + [TWO, [TWO], [[TWO]], FALL, [FALL], [list(FALL)], deep([[(1,)]], 17), [deep((1,), 18)]]
        for table in (((0,),), ((0, 0), (0, 0)), RIGHT, NONE_THREE, FALL, ONE, TWO, THREE, FOUR, GREAT):
            for thing in papers:
                self.assertIs(stair_holds([table], thing), False, thing)
                for at in range(2):
                    paper = [units(len(table)), []]
                    paper[at] = thing
                    self.assertIs(stair_holds([table], paper), shows([table], paper), paper)

    def test_drawn_papers_with_one_thing_otherwise(self):
        draw = drawer(35)
        held = 0
        for often in range(150):
            size = draw.randint(2, 4)
            tables = fading(draw, size, draw.randint(1, 3))
            stair = stair_of(tables)
            self.holds(tables, stair)
            at = draw.randrange(len(stair))
            row = [draw.randint(-1, 2) for k in range(size)]
            stair[at].insert(0, tuple(row))
            if draw.randint(0, 1):
                stair[at].pop()
            due = shows(tables, stair)
            held += due
            self.assertIs(stair_holds(tables, stair), due, (tables, stair))
        self.assertTrue(10 < held < 140, held)

    def test_papers_by_anybody_where_a_way_is_left(self):
        for table in (ONE, TWO, THREE, FOUR, GREAT):
            size = len(table)
            for paper in ([units(size)], [units(size)] * size, [units(size)] + [[]] * (size - 1)):
                self.holds([table], paper, False)

    def test_no_tables(self):
        for thing in ([[(1,)]], [[(1, 0), (0, 1)], [(0, 1)]], None, [], 0):
            refuses_tables(self, stair_holds, thing)


if __name__ == "__main__":
    unittest.main()
