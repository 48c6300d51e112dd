"""Lines of size 2, as tables lead them."""

from noughtways.errors import NoLine, NoTable, TooGreat
from noughtways.kinds import need_table
from noughtways.ranks import is_line, line_of, lost, rank, steps_of
from noughtways.tables import row_times


def need_size_two(size):
    if size > 2:
        raise TooGreat(size, 2)
    if size < 2:
        raise NoTable("this is no table of size 2")


def need_line(thing):
    if not is_line(thing, 2):
        raise NoLine("this is no line of size 2")


def line_behind(table, line):
    return line_of(row_times(line, table))


def led(table, line):
    need_table(table)
    need_size_two(len(table))
    need_line(line)
    return line_behind(table, line)


def need_rank_one(table):
    need_table(table)
    need_size_two(len(table))
    if rank(table) != 1:
        raise NoLine("this is no table of rank 1")


def lost_line(table):
    need_rank_one(table)
    return lost(table)[0]


def made_line(table):
    need_rank_one(table)
    return steps_of(table)[0]
