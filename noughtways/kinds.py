"""What the modules share: what is a whole number, a table, a list of tables, a way, and the refusals of what is none.

A grid is what a table is but for how great its numbers are: tables that were told may have numbers
beyond, and every function but is_table and tables_wrong lets them by.
"""

from noughtways.errors import Below, NoTable, NoTables, NoWay

MOST_ROWS = 4
MOST_TABLES = 4
MOST_PLACES = 200


def is_whole(thing):
    # Python counts True and False among the ints; here they are none.
    return isinstance(thing, int) and not isinstance(thing, bool)


def is_row(thing, size):
    if not isinstance(thing, tuple) or len(thing) != size:
        return False
    return all([is_whole(number) for number in thing])


def is_grid(thing):
    if not isinstance(thing, tuple) or len(thing) < 1 or len(thing) > MOST_ROWS:
        return False
    return all([is_row(row, len(thing)) for row in thing])


def numbers_of(grid):
    numbers = []
    for row in grid:
        numbers.extend(row)
    return numbers


def is_bounded(grid):
    return all([abs(number) < 10 ** 12 for number in numbers_of(grid)])


def wrong_at(thing, bounded):
    if not isinstance(thing, list) or len(thing) < 1 or len(thing) > MOST_TABLES:
        return -1
    for at in range(len(thing)):
        if not is_grid(thing[at]) or len(thing[at]) != len(thing[0]):
            return at
        if bounded and not is_bounded(thing[at]):
            return at
    return None


def is_place(thing, many):
    return is_whole(thing) and thing >= 0 and thing < many


def are_places(thing, many):
    return isinstance(thing, tuple) and all([is_place(place, many) for place in thing])


def is_way(thing, many):
    return are_places(thing, many) and len(thing) >= 1 and len(thing) <= MOST_PLACES


# The refusals' words hold no number of a table: one with very many figures can't be written out.


def need_table(thing):
    if not is_grid(thing):
        raise NoTable("this is no table")


def need_tables(thing):
    at = wrong_at(thing, False)
    if at is not None:
        raise NoTables(at)


def need_way(thing, many):
    if not is_way(thing, many):
        raise NoWay("this is no way of these tables")


def need_none_below(tables):
    for at in range(len(tables)):
        if any([number < 0 for number in numbers_of(tables[at])]):
            raise Below(at)
