"""Whether all ways come to nought: the first way that is left, and stairs, papers that show that none is."""

from noughtways.kinds import need_tables
from noughtways.ranks import is_line, left_of, steps_of, unit_lines
from noughtways.tables import is_nought, row_times, times


# A way that has come to nought stays there, so of those that begin with it none is looked at.
def left_behind(tables, way, table):
    if is_nought(table):
        return None
    if len(way) == len(table):
        return way
    for at in range(len(tables)):
        found = left_behind(tables, way + (at,), times(table, tables[at]))
        if found is not None:
            return found
    return None


def first_left(tables):
    need_tables(tables)
    return left_behind(tables, (), tuple(unit_lines(len(tables[0]))))


def all_nought(tables):
    return first_left(tables) is None


def rows_led(tables, lines):
    led = []
    for table in tables:
        led.extend([row_times(line, table) for line in lines])
    return led


def stair_of(tables):
    need_tables(tables)
    stair = []
    lines = unit_lines(len(tables[0]))
    while lines != []:
        stair.append(lines)
        later = steps_of(rows_led(tables, lines))
        # Each list spans a part of what the one ahead of it does: where it is the whole, nothing is ever lost.
        if len(later) == len(lines):
            return None
        lines = later
    return stair


def are_lines(thing, size):
    return isinstance(thing, list) and all([is_line(line, size) for line in thing])


def has_stair_form(thing, size):
    if not isinstance(thing, list) or len(thing) < 1 or len(thing) > size:
        return False
    return all([are_lines(lines, size) for lines in thing])


def leads_into(tables, lines, later):
    steps = steps_of(later)
    return not any([any(left_of(row, steps)) for row in rows_led(tables, lines)])


def stair_holds(tables, thing):
    need_tables(tables)
    size = len(tables[0])
    if not has_stair_form(thing, size) or len(steps_of(thing[0])) < size:
        return False
    # Behind the last list stands one without lines: into it nought alone is led.
    stair = thing + [[]]
    return all([leads_into(tables, stair[at], stair[at + 1]) for at in range(len(thing))])
