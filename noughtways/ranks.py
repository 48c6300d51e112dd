"""Ranks, determinants, lines, and the lines that a table leads to nought."""

from noughtways.kinds import is_row, need_table
from noughtways.tables import columns_of, row_times_column


def shared_divisor(one, other):
    while other != 0:
        rest = one % other
        one = other
        other = rest
    return abs(one)


def lead_of(row):
    for at in range(len(row)):
        if row[at] != 0:
            return at
    return None


def line_of(row):
    lead = lead_of(row)
    if lead is None:
        return None
    divisor = 0
    for number in row:
        divisor = shared_divisor(divisor, number)
    if row[lead] < 0:
        divisor = -divisor
    return tuple([number // divisor for number in row])


def is_line(thing, size):
    return is_row(thing, size) and line_of(thing) == thing


def unit_line(size, at):
    return tuple([int(k == at) for k in range(size)])


def unit_lines(size):
    return [unit_line(size, at) for at in range(size)]


def cleared(row, step):
    lead = lead_of(step)
    return tuple([row[k] * step[lead] - step[k] * row[lead] for k in range(len(row))])


# What is left is noughts just where the row is a sum of multiples of the steps: each step has a 0
# where those ahead of it lead, so what one has cleared stays so.
def left_of(row, steps):
    for step in steps:
        row = cleared(row, step)
    return row


# No two steps lead in one column, so they lead just where any step-shaped rows of the same span do.
def steps_of(rows):
    steps = []
    for row in rows:
        line = line_of(left_of(row, steps))
        if line is not None:
            steps.append(line)
    return steps


def rank(table):
    need_table(table)
    return len(steps_of(table))


def without_column(rows, at):
    return [row[:at] + row[at + 1:] for row in rows]


def determinant_of(rows):
    if len(rows) == 0:
        return 1
    told = 0
    sign = 1
    for at in range(len(rows)):
        told = told + sign * rows[0][at] * determinant_of(without_column(rows[1:], at))
        sign = -sign
    return told


def determinant(table):
    need_table(table)
    return determinant_of(table)


def lost_at(steps, size, at):
    numbers = list(unit_line(size, at))
    # From the right, so that of a step's columns its leading one alone has no number as yet.
    for step in sorted(steps, key=lead_of, reverse=True):
        lead = lead_of(step)
        known = row_times_column(step, numbers)
        numbers = [number * step[lead] for number in numbers]
        numbers[lead] = -known
    return line_of(tuple(numbers))


def lost(table):
    need_table(table)
    size = len(table)
    steps = steps_of(columns_of(table))
    leads = [lead_of(step) for step in steps]
    return [lost_at(steps, size, at) for at in range(size) if at not in leads]
