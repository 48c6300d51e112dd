"""Rows, as tables lead them: ways that lead a row to nought, and fences and columns that show that none does."""

from noughtways.kinds import all_tuples, first_ways, is_fence, is_row
from noughtways.kinds import need_place, need_rest, need_row, need_tables, need_way_or_none, walked_on
from noughtways.ranks import lead_of
from noughtways.rests import are_left_rests, rests_of_all, rests_of_row
from noughtways.tables import row_times, row_times_column, row_times_columns

LEAST_IN_COLUMN = -2
MOST_IN_COLUMN = 2


def need_tables_and_row(tables, row):
    need_tables(tables)
    need_row(row, len(tables[0]))


def row_led(tables, row, at):
    need_tables_and_row(tables, row)
    need_place(at, len(tables))
    return row_times(row, tables[at])


def row_along(tables, row, way):
    need_tables_and_row(tables, row)
    need_way_or_none(way, len(tables))
    told = row
    for at in way:
        told = row_times(told, tables[at])
    return told


def nought_row(size):
    return (0,) * size


def lost_in(tables, row, most):
    need_tables_and_row(tables, row)
    ways = {row: ()}
    fresh = [row]
    for places in range(most):
        fresh = walked_on(ways, fresh, lambda one, at: row_times(one, tables[at]), len(tables))
    return ways.get(nought_row(len(row)))


# The rests of what a row is led to are those of what its rests are led to by the tables' rests.
def rest_step(tables, m):
    rests = rests_of_all(tables, m)
    return lambda row, at: rests_of_row(row_times(row, rests[at]), m)


def ways_to_rest_rows(tables, row, m):
    need_tables_and_row(tables, row)
    need_rest(m)
    return first_ways({rests_of_row(row, m): ()}, rest_step(tables, m), len(tables))


def lost_by(tables, row, m):
    return ways_to_rest_rows(tables, row, m).get(nought_row(len(row)))


def row_fence(tables, row, m):
    met = sorted(ways_to_rest_rows(tables, row, m))
    return None if nought_row(len(row)) in met else met


def row_fence_holds(tables, row, m, thing):
    need_tables_and_row(tables, row)
    need_rest(m)
    return is_fence(
        thing, lambda one: is_row(one, len(row)) and are_left_rests(one, m), [rests_of_row(row, m)],
        rest_step(tables, m), len(tables))


# A column's first number other than 0 tells what the table's own number is, if it has one.
def is_kept(table, column):
    led = row_times_columns(column, table)
    lead = lead_of(column)
    own = led[lead] // column[lead]
    return own != 0 and led == tuple([own * number for number in column])


def keeps(tables, row, column):
    # A sum other than 0 tells, too, that not all of the column's numbers are 0.
    return row_times_column(row, column) != 0 and all([is_kept(table, column) for table in tables])


def column_holds(tables, row, thing):
    need_tables_and_row(tables, row)
    return is_row(thing, len(row)) and keeps(tables, row, thing)


def small_columns(size):
    return all_tuples(list(range(LEAST_IN_COLUMN, MOST_IN_COLUMN + 1)), size)


def column_of(tables, row):
    need_tables_and_row(tables, row)
    for column in small_columns(len(row)):
        if keeps(tables, row, column):
            return column
    return None
