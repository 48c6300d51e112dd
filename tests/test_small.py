"""9.3: pair_lengths, longest; 9.5: what follows of small sizes."""

import itertools
import unittest

from helper import all_marks, kinds_in, nought, shut, way_product, ways_of
from noughtways.changes import turned_all
from noughtways.counts import always_from
from noughtways.marks import alike_marks, fading
from noughtways.signs import sign_way
from noughtways.small import longest, pair_lengths

RIGHT = ((0, 1), (0, 0))
SWAP = ((0, 1), (1, 0))
STAY = ((1, 0), (0, 1))
UPPER = ((1, 0), (0, 0))
LOWER = ((0, 0), (0, 1))


def length_by_all(marks):
    """The places of the shortest way to nought, all ways gone through; one has fewer places than there are sets."""
    size = len(marks[0])
    for places in range(1, 2 ** size):
        if any(way_product(marks, way) == nought(size) for way in ways_of(len(marks), places)):
            return places
    return None


def lists_of(size, many):
    """As lists rise, all of so many rising marks."""
    return [list(marks) for marks in itertools.combinations(list(all_marks(size)), many)]


class TestPairLengths(unittest.TestCase):

    def test_size_one(self):
        self.assertEqual(kinds_in(pair_lengths(1)), kinds_in([(((0,),), ((1,),), 1)]))

    def test_size_two_against_all_ways_gone_through(self):
        due = [(one, other, length_by_all([one, other])) for one, other in lists_of(2, 2)]
        self.assertEqual(len(due), 120)
        self.assertEqual(kinds_in(pair_lengths(2)), kinds_in(due))
        self.assertEqual(pair_lengths(2), sorted(due, key=lambda pair: pair[:2]))

    def test_worked_out_by_hand(self):
        lengths = {(one, other): length for one, other, length in pair_lengths(2)}
        for one, other, due in (
                (nought(2), RIGHT, 1), (nought(2), SWAP, 1), (RIGHT, SWAP, 2), (RIGHT, UPPER, 2), (LOWER, UPPER, 2),
                (LOWER, SWAP, 3), (SWAP, UPPER, 3), (SWAP, STAY, None), (UPPER, STAY, None), (LOWER, STAY, None)):
            self.assertEqual(lengths[(one, other)], due, (one, other))

    def test_the_list_is_the_askers_own(self):
        told = pair_lengths(1)
        told[0] = None
        told.append(None)
        self.assertEqual(pair_lengths(1), [(((0,),), ((1,),), 1)])

    def test_a_pair_has_the_length_of_the_same_pair_turned(self):
        for size in (1, 2):
            lengths = {(one, other): length for one, other, length in pair_lengths(size)}
            for one, other in lengths:
                turned = turned_all([one, other])
                self.assertEqual(lengths[tuple(sorted(turned))], lengths[(one, other)])

    def test_a_pair_has_the_length_of_the_same_pair_renumbered(self):
        lengths = {(one, other): length for one, other, length in pair_lengths(2)}
        for one, other in lengths:
            anew = sorted(shut([row[::-1] for row in mark[::-1]]) for mark in (one, other))
            self.assertEqual(lengths[tuple(anew)], lengths[(one, other)])

    def test_of_the_shortest_way_by_signs(self):
        for one, other, length in pair_lengths(2):
            way = sign_way([one, other])
            self.assertEqual(length, None if way is None else len(way))


class TestLongest(unittest.TestCase):

    def test_worked_out_by_hand(self):
        for size, many, due in (
                (1, 1, (1, [((0,),)])), (1, 2, (1, [((0,),), ((1,),)])), (2, 1, (2, [((0, 0), (1, 0))])),
                (2, 2, (3, [LOWER, SWAP]))):
            self.assertEqual(kinds_in(longest(size, many)), kinds_in(due), (size, many))

    def test_against_all_lists_gone_through(self):
        for size, many in itertools.product((1, 2), repeat=2):
            lengths = [(length_by_all(marks), marks) for marks in lists_of(size, many)]
            most = max(length for length, marks in lengths if length is not None)
            first = [marks for length, marks in lengths if length == most][0]
            self.assertEqual(kinds_in(longest(size, many)), kinds_in((most, first)))

    def test_the_list_is_the_askers_own(self):
        due = longest(2, 2)
        longest(2, 2)[1].append(None)
        longest(2, 2)[1].pop(0)
        self.assertEqual(longest(2, 2), due)

    def test_somewhat_beyond(self):
        self.assertEqual(longest(3, 1), (3, [((0, 0, 0), (0, 0, 1), (1, 0, 0))]))
        self.assertEqual(longest(2, 3)[0], 3)


class TestSmallSizesWhole(unittest.TestCase):

    def test_the_fading_marks_are_those_for_which_always_from_tells_a_number(self):
        for size in (1, 2, 3):
            faded = fading(size)
            for mark in all_marks(size):
                self.assertEqual(always_from([mark]) is not None, mark in faded)

    def test_each_list_of_alike_marks_is_fading_wholly_or_not_at_all(self):
        for size in (1, 2, 3):
            faded = fading(size)
            for alike in alike_marks(size):
                self.assertIn(sum(mark in faded for mark in alike), (0, len(alike)))


if __name__ == "__main__":
    unittest.main()
