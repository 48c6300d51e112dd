"""Tables, lists of tables, and the products of tables along ways."""

from noughtways.errors import NoTable
from noughtways.kinds import is_bounded, is_grid, need_table, need_tables, need_way, numbers_of, wrong_at


def is_table(thing):
    return is_grid(thing) and is_bounded(thing)


def tables_wrong(thing):
    return wrong_at(thing, True)


def column_at(table, at):
    return tuple([row[at] for row in table])


def columns_of(table):
    return tuple([column_at(table, at) for at in range(len(table))])


def row_times_column(row, column):
    return sum([row[k] * column[k] for k in range(len(row))])


def row_times_columns(row, columns):
    return tuple([row_times_column(row, column) for column in columns])


def row_times(row, table):
    return row_times_columns(row, columns_of(table))


def times(one, other):
    columns = columns_of(other)
    return tuple([row_times_columns(row, columns) for row in one])


def product(one, other):
    need_table(one)
    need_table(other)
    if len(one) != len(other):
        raise NoTable("these tables are of unlike sizes")
    return times(one, other)


def along(tables, way):
    need_tables(tables)
    need_way(way, len(tables))
    told = tables[way[0]]
    for place in way[1:]:
        told = times(told, tables[place])
    return told


def is_nought(table):
    need_table(table)
    return not any(numbers_of(table))


def turned(table):
    need_table(table)
    return columns_of(table)
