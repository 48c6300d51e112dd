"""Tables changed such that what is known of the ways of the old ones tells of the ways of the new ones."""

from noughtways.errors import NoTable, NoTables, TooGreat
from noughtways.kinds import MOST_ROWS, MOST_TABLES, is_grid, need_place, need_table, need_tables, need_way
from noughtways.ranks import determinant_of, unit_lines, without_column
from noughtways.tables import times, turned


def turned_all(tables):
    need_tables(tables)
    return [turned(table) for table in tables]


def way_back(tables, way):
    need_tables(tables)
    need_way(way, len(tables))
    return way[::-1]


# The determinant of what is left without a row and a column, with the sign that it has in the table's own one.
def signed_part(table, row, column):
    part = determinant_of(without_column(table[:row] + table[row + 1:], column))
    return part if (row + column) % 2 == 0 else -part


def undone(table):
    need_table(table)
    sign = determinant_of(table)
    if abs(sign) != 1:
        return None
    size = len(table)
    return tuple([tuple([sign * signed_part(table, j, i) for j in range(size)]) for i in range(size)])


def changed(tables, by):
    need_tables(tables)
    if not is_grid(by) or len(by) != len(tables[0]):
        raise NoTable("this is no table of the size of these tables")
    back = undone(by)
    if back is None:
        raise NoTable("no table undoes this one")
    return [times(times(back, table), by) for table in tables]


def widened(one, other):
    first = [row + (0,) * len(other) for row in one]
    later = [(0,) * len(one) + row for row in other]
    return tuple(first + later)


def beside(one, other):
    need_tables(one)
    need_tables(other)
    if len(one) != len(other):
        raise NoTables(-1)
    rows = len(one[0]) + len(other[0])
    if rows > MOST_ROWS:
        raise TooGreat(rows, MOST_ROWS)
    return [widened(one[at], other[at]) for at in range(len(one))]


def joined(one, other):
    need_tables(one)
    need_tables(other)
    if len(one[0]) != len(other[0]):
        raise NoTables(-1)
    many = len(one) + len(other)
    if many > MOST_TABLES:
        raise TooGreat(many, MOST_TABLES)
    return one + other


def power(table, often):
    told = tuple(unit_lines(len(table)))
    for factor in range(often):
        told = times(told, table)
    return told


def powered(tables, at, often):
    need_tables(tables)
    need_place(at, len(tables))
    return tables[:at] + [power(tables[at], often)] + tables[at + 1:]


def spread(tables, at, often, way):
    need_tables(tables)
    need_place(at, len(tables))
    need_way(way, len(tables))
    told = ()
    for place in way:
        told = told + (place,) * (often if place == at else 1)
    return told
