"""Marks, tables of noughts and ones: all of a size, those of which a power is nought, and those that are alike."""

from noughtways.kinds import all_tuples, need_none_below, need_table, numbers_of, power_of
from noughtways.tables import times


def all_marks(size):
    return all_tuples(all_tuples([0, 1], size), size)


def mark_of(table):
    need_table(table)
    need_none_below([table])
    return tuple([tuple([int(number != 0) for number in row]) for row in table])


# Where any power is nought, that of as many factors as there are rows is.
def is_fading(mark):
    power = mark
    for factor in range(1, len(mark)):
        power = times(power, mark)
    return not any(numbers_of(power))


def fading(size):
    return [mark for mark in all_marks(size) if is_fading(mark)]


def choices_many(places, chosen):
    many = 1
    for k in range(chosen):
        many = many * (places - k) // (k + 1)
    return many


def fading_behind(places, fewer):
    told = 0
    sign = 1
    for k in range(1, places + 1):
        told = told + sign * choices_many(places, k) * power_of(2, k * (places - k)) * fewer[places - k]
        sign = -sign
    return told


def fading_many(size):
    told = [1]
    for places in range(1, size + 1):
        told.append(fading_behind(places, told))
    return told[size]


def numberings(size):
    return [places for places in all_tuples(list(range(size)), size) if len(set(places)) == size]


def renumbered(mark, places):
    return tuple([tuple([mark[i][j] for j in places]) for i in places])


def alike_marks(size):
    anew = numberings(size)
    seen = {}
    lists = []
    for mark in all_marks(size):
        if mark not in seen:
            alike = sorted(set([renumbered(mark, places) for places in anew]))
            seen.update(dict([(one, True) for one in alike]))
            lists.append(alike)
    return lists


def kinds_many(size):
    return len(alike_marks(size))
