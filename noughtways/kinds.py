"""What the modules share: what is a table, a way, a set and their like, refusals of what is none, walks and fences.

A grid is what a table is but for how great its numbers are: tables that were told may have numbers
beyond, and every function but is_table and tables_wrong lets them by.
"""

from noughtways.errors import Below, NoRest, NoRow, NoSet, NoTable, NoTables, NoWay

MOST_ROWS = 4
MOST_TABLES = 4
MOST_PLACES = 200
LEAST_REST = 2
MOST_REST = 7


def is_whole(thing):
    # Python counts True and False among the ints; here they are none.
    return isinstance(thing, int) and not isinstance(thing, bool)


def is_row(thing, size):
    if not isinstance(thing, tuple) or len(thing) != size:
        return False
    return all([is_whole(number) for number in thing])


def is_grid(thing):
    if not isinstance(thing, tuple) or len(thing) < 1 or len(thing) > MOST_ROWS:
        return False
    return all([is_row(row, len(thing)) for row in thing])


def numbers_of(grid):
    numbers = []
    for row in grid:
        numbers.extend(row)
    return numbers


def is_bounded(grid):
    return all([abs(number) < 10 ** 12 for number in numbers_of(grid)])


def wrong_at(thing, bounded):
    if not isinstance(thing, list) or len(thing) < 1 or len(thing) > MOST_TABLES:
        return -1
    for at in range(len(thing)):
        if not is_grid(thing[at]) or len(thing[at]) != len(thing[0]):
            return at
        if bounded and not is_bounded(thing[at]):
            return at
    return None


def is_place(thing, many):
    return is_whole(thing) and thing >= 0 and thing < many


def are_places(thing, many):
    return isinstance(thing, tuple) and all([is_place(place, many) for place in thing])


def is_way(thing, many):
    return are_places(thing, many) and len(thing) >= 1 and len(thing) <= MOST_PLACES


def is_rising(things):
    return all([things[k] < things[k + 1] for k in range(len(things) - 1)])


def is_set(thing, size):
    return are_places(thing, size) and is_rising(thing)


# The refusals' words hold no number of a table: one with very many figures can't be written out.


def need_table(thing):
    if not is_grid(thing):
        raise NoTable("this is no table")


def need_tables(thing):
    at = wrong_at(thing, False)
    if at is not None:
        raise NoTables(at)


def need_way(thing, many):
    if not is_way(thing, many):
        raise NoWay("this is no way of these tables")


def need_way_or_none(thing, many):
    if thing != ():
        need_way(thing, many)


def need_place(thing, many):
    if not is_place(thing, many):
        raise NoWay("there is no table at this place")


def need_none_below(thing):
    need_tables(thing)
    for at in range(len(thing)):
        if any([number < 0 for number in numbers_of(thing[at])]):
            raise Below(at)


def need_set(thing, size):
    if not is_set(thing, size):
        raise NoSet("this is no set of places of rows")


def need_row(thing, size):
    if not is_row(thing, size):
        raise NoRow("this is no row of these tables")


def need_rest(thing):
    if not is_whole(thing) or thing < LEAST_REST or thing > MOST_REST:
        raise NoRest("this is no rest number")


def power_of(number, often):
    told = 1
    for turn in range(often):
        told = told * number
    return told


# They rise where the parts do.
def all_tuples(parts, size):
    told = [()]
    for place in range(size):
        longer = []
        for one in told:
            longer.extend([one + (part,) for part in parts])
        told = longer
    return told


# A walk begins with things that have ways of one length, in their order, and goes on by the tables' places
# in theirs; so the first way that meets a thing is the shortest, and of such the least.
def walked_on(ways, fresh, step, many):
    later = []
    for thing in fresh:
        for at in range(many):
            met = step(thing, at)
            if met not in ways:
                ways[met] = ways[thing] + (at,)
                later.append(met)
    return later


def first_ways(begun, step, many):
    ways = dict(begun)
    fresh = list(begun)
    while fresh != []:
        fresh = walked_on(ways, fresh, step, many)
    return ways


def is_fence(thing, fits, begun, step, many):
    if not isinstance(thing, list) or not all([fits(one) for one in thing]) or not is_rising(thing):
        return False
    met = list(begun)
    for one in thing:
        met.extend([step(one, at) for at in range(many)])
    kept = dict([(one, True) for one in thing])
    return all([one in kept for one in met])
