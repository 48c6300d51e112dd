"""Tables and ways by the rests of their numbers."""

from noughtways.errors import TooGreat
from noughtways.kinds import LEAST_REST, MOST_REST, first_ways, is_fence, is_grid, need_rest, need_table, need_tables
from noughtways.kinds import numbers_of, power_of
from noughtways.tables import along, times

MOST_REST_TABLES = 3000


def rests_of_row(row, m):
    return tuple([number % m for number in row])


def rests_of(table, m):
    return tuple([rests_of_row(row, m) for row in table])


def rests_of_all(tables, m):
    return [rests_of(table, m) for table in tables]


def rest_table(table, m):
    need_table(table)
    need_rest(m)
    return rests_of(table, m)


def rest_along(tables, way, m):
    need_tables(tables)
    need_rest(m)
    # The rests of a product are those of the product of rests, whose numbers are small.
    return rests_of(along(rests_of_all(tables, m), way), m)


def rest_tables_many(size, m):
    return power_of(m, size * size)


def need_few_rest_tables(size, m):
    many = rest_tables_many(size, m)
    if many > MOST_REST_TABLES:
        raise TooGreat(many, MOST_REST_TABLES)


def ways_to_rests(tables, m):
    rests = rests_of_all(tables, m)
    begun = {}
    for at in range(len(rests)):
        if rests[at] not in begun:
            begun[rests[at]] = (at,)
    return first_ways(begun, lambda table, at: rests_of(times(table, rests[at]), m), len(rests))


def nought_of(size):
    return ((0,) * size,) * size


def rest_way(tables, m):
    need_tables(tables)
    need_rest(m)
    need_few_rest_tables(len(tables[0]), m)
    return ways_to_rests(tables, m).get(nought_of(len(tables[0])))


def rest_fence(tables, m):
    need_tables(tables)
    need_rest(m)
    need_few_rest_tables(len(tables[0]), m)
    met = sorted(ways_to_rests(tables, m))
    return None if nought_of(len(tables[0])) in met else met


def are_left_rests(numbers, m):
    return any(numbers) and all([number >= 0 and number < m for number in numbers])


def is_left_rest_table(thing, size, m):
    return is_grid(thing) and len(thing) == size and are_left_rests(numbers_of(thing), m)


def rest_fence_holds(tables, m, thing):
    need_tables(tables)
    need_rest(m)
    rests = rests_of_all(tables, m)
    return is_fence(
        thing, lambda one: is_left_rest_table(one, len(tables[0]), m), rests,
        lambda table, at: rests_of(times(table, rests[at]), m), len(rests))


def barred_by(tables):
    need_tables(tables)
    for m in range(LEAST_REST, MOST_REST + 1):
        if rest_tables_many(len(tables[0]), m) <= MOST_REST_TABLES and rest_fence(tables, m) is not None:
            return m
    return None
