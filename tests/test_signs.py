"""2.1 to 2.4: sets led by tables without a number below 0, ways and fences of signs."""

import itertools
import unittest

from helper import FOUR, GREAT, ONE, THREE, TWO, all_marks, bent_rows, deep, drawer, drawn, kinds_in, refusal
from helper import refuses_below, refuses_tables, shut, thinned, way_product, ways_of, whatever, wrong_places
from helper import wrong_ways_or_none
from noughtways.errors import NoSet, NoWay
from noughtways.signs import first_met, set_along, set_led, sets_met, sign_fence, sign_fence_holds, sign_way

RIGHT = ((0, 1), (0, 0))
LEFT = ((0, 0), (1, 0))
SWAP = ((0, 1), (1, 0))
NONE_TWO = ((0, 0), (0, 0))
TURN = ((0, 1, 0), (0, 0, 1), (1, 0, 0))
JOIN = ((1, 0, 0), (0, 1, 0), (0, 0, 0))
STAY = ((1, 0), (0, 1))


def behind(table, places):
    return tuple(sorted({j for i in places for j in range(len(table)) if table[i][j] != 0}))


def sets_of(size):
    """All sets, rising."""
    return sorted([places for many in range(size + 1) for places in itertools.combinations(range(size), many)])


def whole(tables):
    return tuple(range(len(tables[0])))


def ways_by_sets(tables):
    """Each set that is met, with its first way, all ways gone through by how long they are and as tuples rise."""
    told = {}
    level = [((), whole(tables))]
    for places in range(2 ** len(tables[0])):
        for way, led in level:
            told.setdefault(led, way)
        level = [(way + (at,), behind(tables[at], led)) for way, led in level for at in range(len(tables))]
    return told


def some_lists():
    draw = drawer(21)
    told = [[ONE], [((0,),)], [((0,),), ONE], [TWO], [GREAT], [RIGHT], [LEFT, RIGHT], [SWAP, RIGHT], [NONE_TWO, SWAP],
            [TURN, JOIN], [JOIN, TURN], [TURN], [FOUR], [THREE, TURN]]
    for size in range(1, 4):
        for often in range(25):
            told.append([drawn(draw, size, 0, 1) for at in range(draw.randint(1, 3 if size < 3 else 2))])
            told.append([thinned(draw, size) for at in range(draw.randint(1, 3 if size < 3 else 2))])
    for often in range(60):
        told.append([thinned(draw, 4)])
    return told


def pairs_of_marks():
    return [[one, other] for one in all_marks(2) for other in all_marks(2)]


def wrong_sets(size):
    """Things that are no set of places of so many rows."""
    places = tuple(range(size))
    told = [thing for thing in bent_rows(places) if thing != ()]
    told += [places + (size,), (size,), (-1,), (-1, 0), places + places]
    told += [(0, 0), (size - 1, size - 1), (0,) + places, [], [0], list(places), (10 ** 99,), (0, 10 ** 99)]
    told += [(False,), (False, True), (0, True), (None,), ("0",), ((0,),), ([],), {}, {0: 0}, deep((0,), 18)]
    return told + [row for row in itertools.permutations(places) if row != places]


class TestSetLed(unittest.TestCase):

    def test_worked_out_by_hand(self):
        for tables, places, at, due in (
                ([ONE], (0,), 0, (0,)), ([((0,),)], (0,), 0, ()), ([ONE], (), 0, ()), ([ONE, ((0,),)], (0,), 1, ()),
                ([RIGHT], (0, 1), 0, (1,)), ([RIGHT], (0,), 0, (1,)), ([RIGHT], (1,), 0, ()), ([RIGHT], (), 0, ()),
                ([RIGHT, LEFT], (1,), 1, (0,)), ([TWO], (0,), 0, (0, 1)), ([GREAT], (1,), 0, (1,)),
                ([TURN], (0, 2), 0, (0, 1)), ([TURN], (0, 1, 2), 0, (0, 1, 2)), ([TURN, JOIN], (1, 2), 1, (1,)),
                ([FOUR], (3,), 0, (0, 1, 2, 3)), ([FOUR] * 4, (), 3, ()),
                ([((0, 0, 5, 0), (0, 0, 0, 0), (1, 0, 0, 1), (0, 9, 0, 0))], (0, 1, 3), 0, (1, 2)),
                ([((0, 0, 5, 0), (0, 0, 0, 0), (1, 0, 0, 1), (0, 9, 0, 0))], (2, 3), 0, (0, 1, 3))):
            self.assertEqual(kinds_in(set_led(tables, places, at)), kinds_in(due), (tables, places, at))

    def test_all_sets(self):
        for tables in some_lists():
            for places in sets_of(len(tables[0])):
                for at in range(len(tables)):
                    self.assertEqual(set_led(tables, places, at), behind(tables[at], places))

    def test_what_is_no_set(self):
        for size, table in enumerate((ONE, TWO, THREE, FOUR), start=1):
            for thing in wrong_sets(size):
                refusal(self, NoSet, set_led, [table], thing, 0)
                refusal(self, NoSet, set_led, [table], thing, 1)
                refusal(self, NoSet, set_led, [table], thing, None)
                refusal(self, NoSet, set_along, [table], thing, ())
                refusal(self, NoSet, set_along, [table], thing, (0,))
                refusal(self, NoSet, set_along, [table], thing, [])
                refusal(self, NoSet, first_met, [table], thing)

    def test_what_is_no_place_in_the_list(self):
        for many in range(1, 5):
            tables = [TWO] * many
            for thing in wrong_places(many):
                refusal(self, NoWay, set_led, tables, (0,), thing)
                refusal(self, NoWay, set_led, tables, (), thing)
            self.assertEqual(set_led(tables, (1,), many - 1), (0, 1))


class TestSetAlong(unittest.TestCase):

    def test_worked_out_by_hand(self):
        for tables, places, way, due in (
                ([RIGHT, LEFT], (0, 1), (), (0, 1)), ([RIGHT, LEFT], (), (), ()), ([RIGHT, LEFT], (1,), (), (1,)),
                ([RIGHT, LEFT], (0, 1), (0,), (1,)), ([RIGHT, LEFT], (0, 1), (0, 1), (0,)),
                ([RIGHT, LEFT], (0, 1), (0, 0), ()), ([RIGHT, LEFT], (0,), (1,), ()), ([RIGHT, LEFT], (), (0, 1), ()),
                ([TURN, JOIN], (0, 1, 2), (1, 0, 1), (1,)), ([TURN, JOIN], (0, 1, 2), (1, 0, 1, 0, 1), ()),
                ([TURN], (1,), (0,) * 200, (0,)), ([ONE], (0,), (0,) * 200, (0,))):
            self.assertEqual(kinds_in(set_along(tables, places, way)), kinds_in(due), (tables, places, way))

    def test_one_table_behind_the_other(self):
        for tables in some_lists():
            for places in sets_of(len(tables[0])):
                for way in [way for many in range(4) for way in ways_of(len(tables), many)]:
                    led = places
                    for at in way:
                        led = behind(tables[at], led)
                    self.assertEqual(set_along(tables, places, way), led)

    def test_what_is_no_way(self):
        for many in range(1, 4):
            tables = [TWO] * many
            for thing in wrong_ways_or_none(many):
                refusal(self, NoWay, set_along, tables, (0,), thing)
                refusal(self, NoWay, set_along, tables, (), thing)
        self.assertEqual(set_along([TWO], (0,), (0,) * 200), (0, 1))


class TestRefusals(unittest.TestCase):

    calls = ((set_led, ((0,), 0)), (set_led, (None, None)), (set_along, ((0,), ())), (set_along, ([], [])),
             (sign_way, ()), (sign_fence, ()), (sets_met, ()), (sign_fence_holds, ([(0, 1)],)),
             (sign_fence_holds, (None,)), (first_met, ((0,),)), (first_met, ([0],)))

    def test_no_tables(self):
        for call, handed in self.calls:
            refuses_tables(self, call, *handed)

    def test_below_behind_no_tables(self):
        for call, handed in self.calls:
            refuses_below(self, call, *handed)


class TestSignWay(unittest.TestCase):

    def test_worked_out_by_hand(self):
        for tables, due in (
                ([ONE], None), ([((0,),)], (0,)), ([ONE, ((0,),)], (1,)), ([((0,),), ((0,),)], (0,)),
                ([RIGHT], (0, 0)), ([RIGHT, LEFT], (0, 0)), ([SWAP], None), ([SWAP, RIGHT], (1, 1)),
                ([SWAP, ((1, 0), (0, 0))], (1, 0, 1)), ([STAY, NONE_TWO], (1,)), ([TWO], None), ([GREAT], None),
                ([TURN], None), ([TURN, JOIN], (1, 0, 1, 0, 1)), ([JOIN, TURN], (0, 1, 0, 1, 0)),
                ([((0, 1, 1, 1), (0, 0, 1, 1), (0, 0, 0, 1), (0, 0, 0, 0))], (0, 0, 0, 0)), ([FOUR], None)):
            self.assertEqual(kinds_in(sign_way(tables)), kinds_in(due), tables)

    def against_all_ways(self, tables):
        way = sign_way(tables)
        self.assertEqual(way, ways_by_sets(tables).get(()), tables)
        if way is not None:
            self.assertLess(len(way), 2 ** len(tables[0]))
            self.assertFalse(any(any(row) for row in way_product(tables, way)))

    def test_against_all_ways_gone_through(self):
        for tables in some_lists() + pairs_of_marks():
            self.against_all_ways(tables)
        for mark in all_marks(3):
            self.against_all_ways([mark])

    def test_of_as_few_places_as_any_product_that_is_nought(self):
        for tables in some_lists():
            way = sign_way(tables)
            for places in range(1, 5):
                noughts = [one for one in ways_of(len(tables), places)
                           if not any(any(row) for row in way_product(tables, one))]
                if way is None or len(way) > places:
                    self.assertEqual(noughts, [])
                elif len(way) == places:
                    self.assertEqual(noughts[0], way)

    def test_other_numbers_in_the_same_places(self):
        draw = drawer(22)
        for tables in some_lists():
            others = [shut([[number and draw.choice((1, 2, 7, 10 ** 30)) for number in row] for row in table])
                      for table in tables]
            self.assertEqual(sign_way(others), sign_way(tables))
            self.assertEqual(sign_fence(others), sign_fence(tables))
            self.assertEqual(sets_met(others), sets_met(tables))


def is_fence(tables, sets):
    """By the words of 2.3, of a list of sets."""
    return (sets == sorted(sets) and len(sets) == len(set(sets)) and () not in sets and whole(tables) in sets
            and all(behind(table, places) in sets for places in sets for table in tables))


class TestSignFence(unittest.TestCase):

    def test_worked_out_by_hand(self):
        for tables, due in (
                ([ONE], [(0,)]), ([((0,),)], None), ([RIGHT], None), ([SWAP], [(0, 1)]), ([GREAT], [(0, 1)]),
                ([((1, 0), (1, 0)), SWAP], [(0,), (0, 1), (1,)]), ([((1, 0), (1, 0))], [(0,), (0, 1)]),
                ([((0, 1), (0, 1))], [(0, 1), (1,)]), ([TURN], [(0, 1, 2)]), ([TURN, JOIN], None),
                ([FOUR], [(0, 1, 2, 3)])):
            self.assertEqual(kinds_in(sign_fence(tables)), kinds_in(due), tables)

    def test_a_fence_of_as_few_sets_as_can_be_or_a_way(self):
        fenced = 0
        for tables in some_lists() + pairs_of_marks():
            fence = sign_fence(tables)
            self.assertEqual(fence is None, sign_way(tables) is not None)
            if fence is not None:
                fenced += 1
                self.assertEqual(fence, sorted(ways_by_sets(tables)))
                self.assertTrue(is_fence(tables, fence))
                self.assertIs(sign_fence_holds(tables, fence), True)
        self.assertGreater(fenced, 50)

    def test_whoever_made_a_fence_no_product_is_nought(self):
        for tables in pairs_of_marks():
            sets = sets_of(2)[1:]
            lists = [list(one) for many in range(4) for one in itertools.combinations(sets, many)]
            if any(sign_fence_holds(tables, one) for one in lists):
                self.assertIsNone(sign_way(tables))
            else:
                self.assertIsNotNone(sign_way(tables))


class TestSignFenceHolds(unittest.TestCase):

    def holds(self, tables, thing, due):
        self.assertIs(sign_fence_holds(tables, thing), due, (tables, thing))

    def test_all_lists_of_sets_of_two_places(self):
        lists = [list(one) for many in range(4) for one in itertools.product(sets_of(2), repeat=many)]
        for tables in pairs_of_marks()[::5]:
            for sets in lists:
                self.holds(tables, sets, is_fence(tables, sets))

    def test_fences_by_anybody(self):
        self.holds([SWAP], [(0, 1)], True)
        self.holds([SWAP], [(0,), (0, 1), (1,)], True)
        self.holds([SWAP], [(0,), (0, 1)], False)
        self.holds([TURN], [(0,), (0, 1, 2), (1,), (2,)], True)
        self.holds([TURN], [(0, 1), (0, 1, 2), (0, 2), (1, 2)], True)
        self.holds([TURN], [(0, 1), (0, 1, 2), (1, 2)], False)
        self.holds([FOUR], sets_of(4)[1:], True)
        self.holds([FOUR], sets_of(4), False)
        self.holds([((0,),)], [(0,)], False)
        self.holds([ONE, ((0,),)], [(0,)], False)
        self.holds([((0,),), ONE], [(0,)], False)

    def test_lists_with_one_thing_otherwise(self):
        for tables in some_lists():
            fence = sign_fence(tables)
            size = len(tables[0])
            if fence is None:
                self.holds(tables, sets_of(size)[1:], False)
                self.holds(tables, sets_met(tables), False)
                self.holds(tables, sets_met(tables)[1:], False)
                continue
            self.holds(tables, [()] + fence, False)
            for at, places in enumerate(fence):
                self.holds(tables, fence[:at] + fence[at + 1:], False)
                self.holds(tables, fence[:at] + [places] + fence[at:], False)
                for thing in (list(places), places[::-1] + (0,), places + (size,), (-1,) + places, None, True, {}):
                    self.holds(tables, fence[:at] + [thing] + fence[at + 1:], False)
            for places in sets_of(size)[1:]:
                more = sorted(fence + [places])
                self.holds(tables, more, is_fence(tables, more))
            if len(fence) > 1:
                self.holds(tables, fence[::-1], False)

    def test_whatever_is_handed_in(self):
        for table in (ONE, TWO, THREE, FOUR, GREAT):
            places = tuple(range(len(table)))
            self.holds([table], [places], True)
            things = [(places,), {places: True}, places, {0: places}, str([places]), deep([places], 17)]
            for thing in whatever() + things:
                self.holds([table], thing, False)
                if thing != places:
                    self.holds([table], [thing], False)
                self.holds([table], [places, thing], False)
            for thing in bent_rows(places):
                self.holds([table], [thing], False)


class TestSetsMet(unittest.TestCase):

    def test_worked_out_by_hand(self):
        for tables, due in (
                ([ONE], [(0,)]), ([((0,),)], [(), (0,)]), ([RIGHT], [(), (0, 1), (1,)]), ([SWAP], [(0, 1)]),
                ([RIGHT, LEFT], [(), (0,), (0, 1), (1,)]), ([NONE_TWO], [(), (0, 1)]), ([TURN], [(0, 1, 2)]),
                ([TURN, JOIN], [(), (0,), (0, 1), (0, 1, 2), (0, 2), (1,), (1, 2), (2,)])):
            self.assertEqual(kinds_in(sets_met(tables)), kinds_in(due), tables)

    def test_against_all_ways_gone_through(self):
        for tables in some_lists() + pairs_of_marks():
            self.assertEqual(sets_met(tables), sorted(ways_by_sets(tables)))

    def test_the_list_is_the_askers_own(self):
        for call in (sets_met, sign_fence):
            told = call([SWAP, STAY])
            told.append(())
            told[0] = None
            self.assertEqual(call([SWAP, STAY]), [(0, 1)])


class TestFirstMet(unittest.TestCase):

    def test_worked_out_by_hand(self):
        for tables, places, due in (
                ([ONE], (0,), ()), ([ONE], (), None), ([((0,),)], (), (0,)), ([SWAP], (0,), None),
                ([RIGHT, LEFT], (0, 1), ()), ([RIGHT, LEFT], (0,), (1,)), ([RIGHT, LEFT], (1,), (0,)),
                ([RIGHT, LEFT], (), (0, 0)), ([TURN, JOIN], (0, 2), (1, 0, 0)), ([TURN, JOIN], (2,), (1, 0, 1, 0))):
            self.assertEqual(kinds_in(first_met(tables, places)), kinds_in(due), (tables, places))

    def test_of_every_set(self):
        for tables in some_lists() + pairs_of_marks():
            ways = ways_by_sets(tables)
            for places in sets_of(len(tables[0])):
                way = first_met(tables, places)
                self.assertEqual(way, ways.get(places), (tables, places))
                if way is not None:
                    self.assertEqual(set_along(tables, whole(tables), way), places)
            self.assertEqual(first_met(tables, whole(tables)), ())
            self.assertEqual(first_met(tables, ()), sign_way(tables))


if __name__ == "__main__":
    unittest.main()
