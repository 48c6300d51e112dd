"""How long shortest ways to nought are, of all lists of a few marks of a small size."""

from noughtways.marks import all_marks
from noughtways.signs import ways_to_sets


def length_of(marks):
    way = ways_to_sets(marks).get(())
    return None if way is None else len(way)


# As lists rise, where the marks do.
def rising_lists(marks, many):
    if many == 0:
        return [[]]
    lists = []
    for at in range(len(marks)):
        lists.extend([[marks[at]] + later for later in rising_lists(marks[at + 1:], many - 1)])
    return lists


def pair_lengths(size):
    return [(pair[0], pair[1], length_of(pair)) for pair in rising_lists(all_marks(size), 2)]


def longest(size, many):
    length = 0
    found = []
    for marks in rising_lists(all_marks(size), many):
        here = length_of(marks)
        if here is not None and here > length:
            length = here
            found = marks
    return (length, found)
