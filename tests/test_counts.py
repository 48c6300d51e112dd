"""7.1 to 7.4: how many ways are to nought, and which, of tables without a number below 0."""

import itertools
import math
import unittest
from fractions import Fraction

from helper import FOUR, GREAT, ONE, THREE, TWO, all_marks, deep, drawer, drawn, kinds_in, refusal, refuses_below
from helper import refuses_tables, thinned, way_product, ways_of, whatever, wrong_ways
from noughtways.allways import all_nought
from noughtways.counts import always_from, ever, fresh_many, left_sets, share, way_at, way_number, ways_many
from noughtways.errors import NoWay
from noughtways.tables import along

RIGHT = ((0, 1), (0, 0))
LEFT = ((0, 0), (1, 0))
SWAP = ((0, 1), (1, 0))
NONE_TWO = ((0, 0), (0, 0))
STAY = ((1, 0), (0, 1))
TURN = ((0, 1, 0), (0, 0, 1), (1, 0, 0))
JOIN = ((1, 0, 0), (0, 1, 0), (0, 0, 0))
FALL = ((0, 1, 1, 1), (0, 0, 1, 1), (0, 0, 0, 1), (0, 0, 0, 0))
MOST = {1: 8, 2: 7, 3: 5, 4: 4}


def some_lists():
    draw = drawer(71)
    told = [[ONE], [((0,),)], [((0,),), ONE], [ONE, ((0,),), ((0,),), ONE], [TWO], [GREAT], [RIGHT], [RIGHT, LEFT],
            [SWAP, RIGHT], [NONE_TWO, SWAP], [SWAP, ((1, 0), (0, 0))], [TURN, JOIN], [FALL], [FALL, FOUR],
            [RIGHT, LEFT, SWAP, STAY], [THREE, TURN]]
    for size in range(1, 5):
        for often in range(10):
            many = draw.randint(1, 4)
            told.append([drawn(draw, size, 0, 1) for at in range(many)])
            told.append([thinned(draw, size) for at in range(many)])
    return told


def columns(tables, way):
    """The columns of the way's product in which there is a number other than 0."""
    if way == ():
        return tuple(range(len(tables[0])))
    table = way_product(tables, way)
    return tuple([j for j in range(len(table)) if any(row[j] for row in table)])


def noughts(tables, places):
    """All ways of so many places to nought, as tuples rise."""
    return [way for way in ways_of(len(tables), places) if columns(tables, way) == ()]


def fresh(tables, places):
    return [way for way in noughts(tables, places)
            if all(columns(tables, way[:many]) for many in range(1, places))]


class TestWaysMany(unittest.TestCase):

    def test_worked_out_by_hand(self):
        for tables, places, many, begun in (
                ([ONE], 3, [0, 0, 0, 0], [0, 0, 0, 0]), ([((0,),)], 3, [0, 1, 1, 1], [0, 1, 0, 0]),
                ([ONE, ((0,),)], 4, [0, 1, 3, 7, 15], [0, 1, 1, 1, 1]), ([RIGHT], 4, [0, 0, 1, 1, 1], [0, 0, 1, 0, 0]),
                ([((0,),), ((0,),)], 3, [0, 2, 4, 8], [0, 2, 0, 0]), ([TWO], 0, [0], [0]), ([NONE_TWO], 0, [0], [0]),
                ([RIGHT, LEFT], 4, [0, 0, 2, 6, 14], [0, 0, 2, 2, 2]), ([SWAP], 2, [0, 0, 0], [0, 0, 0]),
                ([SWAP, ((1, 0), (0, 0))], 4, [0, 0, 0, 1, 4], [0, 0, 0, 1, 2]), ([NONE_TWO], 1, [0, 1], [0, 1]),
                ([FALL], 6, [0, 0, 0, 0, 1, 1, 1], [0, 0, 0, 0, 1, 0, 0])):
            self.assertEqual(kinds_in(ways_many(tables, places)), kinds_in(many), tables)
            self.assertEqual(kinds_in(fresh_many(tables, places)), kinds_in(begun), tables)

    def test_against_all_ways_gone_through(self):
        for tables in some_lists():
            most = MOST[len(tables)]
            many = [len(noughts(tables, places)) for places in range(most + 1)]
            begun = [len(fresh(tables, places)) for places in range(most + 1)]
            for places in range(most + 1):
                self.assertEqual(ways_many(tables, places), many[:places + 1], tables)
                self.assertEqual(fresh_many(tables, places), begun[:places + 1], tables)

    def test_pairs_of_marks(self):
        for tables in [list(pair) for pair in itertools.product(all_marks(2), repeat=2)]:
            self.assertEqual(ways_many(tables, 4), [len(noughts(tables, places)) for places in range(5)])
            self.assertEqual(fresh_many(tables, 4), [len(fresh(tables, places)) for places in range(5)])

    def test_sixty_places(self):
        self.assertEqual(ways_many([ONE, ((0,),), ONE, ONE], 60), [4 ** k - 3 ** k for k in range(61)])
        self.assertEqual(fresh_many([ONE, ((0,),), ONE, ONE], 60), [0] + [3 ** k for k in range(60)])
        self.assertEqual(ways_many([RIGHT, LEFT], 60), [0, 0] + [2 ** k - 2 for k in range(2, 61)])
        self.assertEqual(ways_many([TWO], 60), [0] * 61)
        self.assertEqual(ways_many([FALL] * 4, 60), [0] * 4 + [4 ** k for k in range(4, 61)])
        self.assertEqual(fresh_many([FALL] * 4, 60), [0] * 4 + [256] + [0] * 56)

    def test_so_often_as_there_are_tables_and_the_fresh_ones_more(self):
        for tables in some_lists():
            many = ways_many(tables, 60)
            begun = fresh_many(tables, 60)
            self.assertEqual((len(many), len(begun)), (61, 61))
            for k in range(60):
                self.assertEqual(many[k + 1], len(tables) * many[k] + begun[k + 1])

    def test_each_way_to_nought_has_just_one_such_beginning(self):
        for tables in some_lists():
            most = MOST[len(tables)]
            begun = [set(fresh(tables, places)) for places in range(most + 1)]
            for way in noughts(tables, most):
                self.assertEqual([way[:k] in begun[k] for k in range(1, most + 1)].count(True), 1)

    def test_other_numbers_in_the_same_places(self):
        self.assertEqual(ways_many([GREAT, ((0, 9), (0, 0))], 9), ways_many([STAY, RIGHT], 9))

    def test_the_lists_are_the_askers_own(self):
        for call in (ways_many, fresh_many, left_sets):
            due = call([RIGHT, LEFT], 4)
            told = call([RIGHT, LEFT], 4)
            told.append(None)
            told[0] = None
            self.assertEqual(call([RIGHT, LEFT], 4), due)


class TestLeftSets(unittest.TestCase):

    def test_worked_out_by_hand(self):
        for tables, places, due in (
                ([ONE], 0, [((0,), 1)]), ([ONE], 5, [((0,), 1)]), ([((0,),)], 0, [((0,), 1)]),
                ([((0,),)], 1, [((), 1)]), ([ONE, ((0,),)], 3, [((), 7), ((0,), 1)]), ([RIGHT], 1, [((1,), 1)]),
                ([RIGHT, LEFT], 1, [((0,), 1), ((1,), 1)]), ([RIGHT, LEFT], 2, [((), 2), ((0,), 1), ((1,), 1)]),
                ([SWAP, STAY], 3, [((0, 1), 8)]), ([TURN, JOIN], 2, [((0, 1), 2), ((0, 1, 2), 1), ((1, 2), 1)]),
                ([TWO], 0, [((0, 1), 1)]), ([FOUR] * 4, 60, [((0, 1, 2, 3), 4 ** 60)]), ([FALL], 4, [((), 1)])):
            self.assertEqual(kinds_in(left_sets(tables, places)), kinds_in(due), (tables, places))

    def test_against_all_ways_gone_through(self):
        for tables in some_lists():
            for places in range(MOST[len(tables)] + 1):
                counted = {}
                for way in ways_of(len(tables), places):
                    counted[columns(tables, way)] = counted.get(columns(tables, way), 0) + 1
                self.assertEqual(left_sets(tables, places), sorted(counted.items()), (tables, places))

    def test_together_as_many_as_all_ways(self):
        for tables in some_lists():
            for places in (0, 1, 2, 7, 30, 60):
                told = left_sets(tables, places)
                self.assertEqual(sum(many for one, many in told), len(tables) ** places)
                self.assertEqual(dict(told).get((), 0), ways_many(tables, places)[-1])
                self.assertGreater(min(many for one, many in told), 0)
                self.assertEqual([one for one, many in told], sorted({one for one, many in told}))


def wrong_numbers(many):
    """Things that are no number of a way where there are so many."""
    told = [thing for thing in whatever() if not (type(thing) is int and 0 <= thing < many)]
    return told + [many, many + 1, -1, -many - 1, (0,), [0], "0", True, False, None, 10 ** 99, deep(0, 20)]


class TestWayAt(unittest.TestCase):

    def test_worked_out_by_hand(self):
        for tables, places, number, due in (
                ([((0,),)], 1, 0, (0,)), ([((0,),)], 3, 0, (0, 0, 0)), ([ONE, ((0,),)], 1, 0, (1,)),
                ([ONE, ((0,),)], 2, 0, (0, 1)), ([ONE, ((0,),)], 2, 1, (1, 0)), ([ONE, ((0,),)], 2, 2, (1, 1)),
                ([RIGHT, LEFT], 2, 0, (0, 0)), ([RIGHT, LEFT], 2, 1, (1, 1)), ([RIGHT, LEFT], 3, 2, (0, 1, 1)),
                ([SWAP, ((1, 0), (0, 0))], 3, 0, (1, 0, 1)), ([FALL] * 4, 4, 255, (3, 3, 3, 3)),
                ([FALL] * 4, 4, 27, (0, 1, 2, 3)), ([ONE, ((0,),)], 40, 0, (0,) * 39 + (1,)),
                ([ONE, ((0,),)], 40, 2 ** 40 - 2, (1,) * 40), ([ONE, ((0,),)], 40, 2 ** 39 - 1, (1,) + (0,) * 39),
                ([TURN, JOIN], 5, 0, (1, 0, 1, 0, 1)), ([STAY, RIGHT, STAY, NONE_TWO], 1, 0, (3,))):
            self.assertEqual(kinds_in(way_at(tables, places, number)), kinds_in(due), (tables, places, number))
            self.assertEqual(kinds_in(way_number(tables, due)), kinds_in(number), (tables, due))

    def test_each_number_against_the_rising_list(self):
        for tables in some_lists():
            for places in range(1, MOST[len(tables)] + 1):
                ways = noughts(tables, places)
                step = 1 + len(ways) // 60
                for number in list(range(0, len(ways), step)) + list(range(max(len(ways) - 2, 0), len(ways))):
                    self.assertEqual(way_at(tables, places, number), ways[number], (tables, places))
                    self.assertEqual(way_number(tables, ways[number]), number, (tables, places))
                for number in (len(ways), -1):
                    refusal(self, NoWay, way_at, tables, places, number)

    def test_each_number_of_pairs_of_marks(self):
        for tables in [list(pair) for pair in itertools.product(all_marks(2), repeat=2)]:
            for places in (1, 2, 3):
                ways = noughts(tables, places)
                self.assertEqual([way_at(tables, places, number) for number in range(len(ways))], ways)
                refusal(self, NoWay, way_at, tables, places, len(ways))

    def test_there_and_back_of_forty_places(self):
        draw = drawer(72)
        for tables in some_lists():
            many = ways_many(tables, 40)[-1]
            refusal(self, NoWay, way_at, tables, 40, many)
            if many:
                for number in [0, many - 1] + [draw.randrange(many) for often in range(3)]:
                    way = way_at(tables, 40, number)
                    self.assertEqual(len(way), 40)
                    self.assertEqual(way_number(tables, way), number)

    def test_what_is_no_such_number(self):
        for tables, places in (([RIGHT, LEFT], 2), ([RIGHT, LEFT], 5), ([((0,),)], 1), ([TWO], 3), ([FALL], 40)):
            for thing in wrong_numbers(ways_many(tables, places)[-1]):
                refusal(self, NoWay, way_at, tables, places, thing)

    def test_none_where_no_way_is_to_nought(self):
        for tables in ([ONE], [TWO, GREAT], [SWAP, STAY], [FOUR]):
            for places in (1, 2, 40):
                refusal(self, NoWay, way_at, tables, places, 0)


class TestWayNumber(unittest.TestCase):

    def test_two_hundred_places(self):
        self.assertEqual(way_number([((0,),), ONE], (0,) * 200), 0)
        self.assertEqual(way_number([((0,),), ONE], (1,) * 199 + (0,)), 2 ** 200 - 2)
        self.assertEqual(way_number([ONE, ((0,),)], (1,) * 200), 2 ** 200 - 2)
        self.assertEqual(way_number([FALL] * 4, (3,) * 200), 4 ** 200 - 1)
        self.assertEqual(way_number([RIGHT, LEFT], (1,) * 200), 2 ** 200 - 3)
        refusal(self, NoWay, way_number, [((0,),), ONE], (0,) * 201)

    def test_a_way_that_is_not_to_nought(self):
        for tables in some_lists():
            for places in range(1, 4):
                for way in ways_of(len(tables), places):
                    if columns(tables, way):
                        refusal(self, NoWay, way_number, tables, way)

    def test_what_is_no_way(self):
        for tables in ([NONE_TWO], [NONE_TWO] * 2, [NONE_TWO, RIGHT, LEFT]):
            for thing in wrong_ways(len(tables)):
                refusal(self, NoWay, way_number, tables, thing)

    def test_as_many_as_there_are_all_unlike(self):
        for tables in ([RIGHT, LEFT], [SWAP, ((1, 0), (0, 0))], [ONE, ((0,),), ONE]):
            ways = noughts(tables, 5)
            self.assertEqual([way_number(tables, way) for way in ways], list(range(ways_many(tables, 5)[-1])))


class TestAlwaysFrom(unittest.TestCase):

    def test_worked_out_by_hand(self):
        for tables, due in (
                ([ONE], None), ([((0,),)], 1), ([((0,),), ((0,),)], 1), ([((0,),), ONE], None), ([NONE_TWO], 1),
                ([RIGHT], 2), ([RIGHT, RIGHT], 2), ([RIGHT, NONE_TWO], 2), ([RIGHT, LEFT], None), ([SWAP], None),
                ([FALL], 4), ([FALL] * 4, 4), ([JOIN], None), ([TURN], None), ([GREAT], None),
                ([((0, 0, 5), (0, 0, 0), (0, 0, 0))], 2), ([((0, 5, 0), (0, 0, 0), (0, 1, 0))], 2),
                ([((0, 5, 0), (0, 0, 0), (0, 1, 0)), ((0, 0, 0), (0, 0, 0), (3, 0, 0))], 3)):
            self.assertEqual(kinds_in(always_from(tables)), kinds_in(due), tables)

    def looked_at(self, tables):
        size = len(tables[0])
        whole = [places for places in range(1, size + 2) if len(noughts(tables, places)) == len(tables) ** places]
        told = always_from(tables)
        self.assertEqual(told, whole[0] if whole else None, tables)
        self.assertEqual(told is not None, all_nought(tables))
        if told is not None:
            self.assertLessEqual(told, size)

    def test_against_all_ways_gone_through(self):
        for tables in some_lists():
            self.looked_at(tables)
        for mark in all_marks(3):
            self.looked_at([mark])

    def test_of_all_pairs_of_marks(self):
        for pair in itertools.product(all_marks(2), repeat=2):
            self.looked_at(list(pair))


class TestEver(unittest.TestCase):

    def test_worked_out_by_hand(self):
        for tables, due in (
                ([ONE], False), ([((0,),)], True), ([ONE, ((0,),)], True), ([RIGHT], True), ([SWAP], False),
                ([SWAP, ((1, 0), (0, 0))], True), ([TWO], False), ([TURN], False), ([TURN, JOIN], True),
                ([GREAT], False), ([FOUR], False), ([FALL, FOUR], True)):
            self.assertIs(ever(tables), due, tables)

    def test_against_all_ways_gone_through(self):
        pairs = [list(pair) for pair in itertools.product(all_marks(2), repeat=2)]
        for tables in some_lists() + pairs:
            self.assertIs(ever(tables), ways_many(tables, 15)[-1] > 0)
            if any(noughts(tables, places) for places in range(1, 5)):
                self.assertIs(ever(tables), True)
            if len(tables[0]) < 3:
                self.assertIs(ever(tables), any(noughts(tables, places) for places in range(1, 4)), tables)


class TestShare(unittest.TestCase):

    def test_worked_out_by_hand(self):
        for tables, places, due in (
                ([ONE], 1, (0, 1)), ([ONE] * 4, 60, (0, 1)), ([((0,),)], 1, (1, 1)), ([((0,),)] * 4, 60, (1, 1)),
                ([ONE, ((0,),)], 1, (1, 2)), ([ONE, ((0,),)], 2, (3, 4)), ([RIGHT, LEFT], 1, (0, 1)),
                ([RIGHT, LEFT], 2, (1, 2)), ([RIGHT, LEFT], 3, (3, 4)), ([RIGHT, LEFT], 60, (2 ** 59 - 1, 2 ** 59)),
                ([ONE, ((0,),), ((0,),)], 1, (2, 3)), ([ONE, ((0,),), ONE, ONE], 60, (4 ** 60 - 3 ** 60, 4 ** 60)),
                ([SWAP, ((1, 0), (0, 0))], 4, (1, 4)), ([NONE_TWO, NONE_TWO, STAY, STAY], 3, (7, 8))):
            self.assertEqual(kinds_in(share(tables, places)), kinds_in(due), (tables, places))

    def test_the_part_of_all_ways(self):
        for tables in some_lists():
            for places in (1, 2, 3, 4, 17, 60):
                top, bottom = share(tables, places)
                self.assertEqual(Fraction(top, bottom), Fraction(ways_many(tables, places)[-1], len(tables) ** places))
                self.assertEqual(math.gcd(top, bottom), 1)
                self.assertGreater(bottom, 0)
                if places < 5:
                    self.assertEqual(Fraction(top, bottom),
                                     Fraction(len(noughts(tables, places)), len(tables) ** places))

    def test_shares_never_fall(self):
        for tables in some_lists():
            shares = [Fraction(*share(tables, places)) for places in range(1, 61)]
            self.assertEqual(shares, sorted(shares))
            self.assertEqual(shares[0] <= 1, True)


class TestRefusals(unittest.TestCase):

    calls = ((ways_many, (0,)), (ways_many, (60,)), (fresh_many, (3,)), (left_sets, (0,)), (left_sets, (5,)),
             (way_at, (1, 0)), (way_at, (3, None)), (way_number, ((0,),)), (way_number, (None,)), (way_number, ((9,),)),
             (always_from, ()), (ever, ()), (share, (1,)), (share, (60,)))

    def test_no_tables_ahead_of_all(self):
        for call, behind in self.calls:
            refuses_tables(self, call, *behind)

    def test_below_behind_no_tables(self):
        for call, behind in self.calls:
            refuses_below(self, call, *behind)

    def test_tables_that_were_told(self):
        great = along([((10 ** 11, 5), (0, 10 ** 11))], (0,) * 200)
        self.assertEqual(ways_many([great, RIGHT], 3), ways_many([((1, 1), (0, 1)), RIGHT], 3))
        self.assertIsNone(always_from([great]))
        self.assertEqual(way_at([great, RIGHT], 2, 0), (1, 1))


if __name__ == "__main__":
    unittest.main()
