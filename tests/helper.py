"""What several test files need: things of every kind, drawn tables, and how a refusal is looked at."""

import itertools
import random

from noughtways.errors import Below, NoTable, NoTables

LIMIT = 10 ** 12

ONE = ((7,),)
TWO = ((1, 2), (3, 4))
THREE = ((1, 2, 3), (4, 5, 6), (7, 8, 9))
FOUR = ((1, 2, 3, 4), (5, 6, 7, 8), (9, 10, 11, 12), (13, 14, 15, 16))
GREAT = ((LIMIT, 0), (0, 1))


def deep(thing, often):
    """The thing within lists, tuples and dicts by turns."""
    for turn in range(often):
        thing = ([thing], (thing,), {"in": thing})[turn % 3]
    return thing


def whatever():
    """Things of every kind that may be handed in; none is a table, a list of tables or a way."""
    return [
        None, True, False, 0, 1, -1, 3, 10 ** 99, -(10 ** 99),
        "", " ", "0", "1 0/0 1", "(0,)", "~",
        [], [0], [0, 1], [None], [[]], [()], [[1, 2], [3, 4]], ["ab", "cd"],
        (), ((),), ([],), (None,), (True,), ("",), ("a",), ("ab", "cd"), ({},), ((0,), (1,)),
        {}, {0: 0}, {0: ((1,),)}, {"a": [1, (2, {})]}, {(0,): None},
        deep(0, 20), deep(None, 20), deep(((1,),), 18), deep([], 19), deep((), 19), deep({}, 19),
    ]


def no_tables_at_all():
    """Things that are no table, whatever their numbers may be."""
    return whatever() + [
        (), tuple([(0, 0, 0, 0, 0)] * 5),
        [[1]], [(1,)], ([1],), [(1, 2), (3, 4)], ([1, 2], (3, 4)), ((1, 2), [3, 4]), ((1, 2), {3: 0, 4: 0}),
        ((1, 2), (3,)), ((1,), (2, 3)), ((1, 2, 3), (4, 5, 6)), ((1, 2), (3, 4), (5, 6)), ((1, 2, 3),),
        ((1, 2), (3, 4, 5)), ((1, 2), ()), ((1, 2), 3), ((1, 2), "34"), (1, 2), (1,),
        ((True,),), ((False,),), ((None,),), (("1",),), (([1],),), (((1,),),), (({},),),
        ((1, 2), (3, True)), ((1, False), (3, 4)), ((1, None), (3, 4)), ((1, 2), ("3", 4)), ((1, 2), (3, (4,))),
    ]


def kinds_in(thing):
    """The thing with each value's class beside it, so that 1 and True are told apart."""
    if isinstance(thing, (list, tuple)):
        return (type(thing), [kinds_in(one) for one in thing])
    if isinstance(thing, dict):
        return (dict, [(kinds_in(key), kinds_in(one)) for key, one in thing.items()])
    return (type(thing), thing)


def refusal(case, kind, call, *handed):
    """The error with which the call is refused; of this very class, and nothing handed in is changed."""
    ahead = kinds_in(handed)
    try:
        told = call(*handed)
    except kind as error:
        case.assertIs(type(error), kind)
        case.assertEqual(kinds_in(handed), ahead)
        return error
    return case.fail(f"not refused, but told {kinds_in(told)!r}")


def wrong_tables():
    """Things that are no list of tables, each with the number that NoTables bears of it."""
    told = [(thing, 0 if isinstance(thing, list) and 1 <= len(thing) <= 4 else -1) for thing in whatever()]
    return told + [
        (TWO, -1), ((TWO,), -1), ({0: TWO}, -1), ([TWO] * 5, -1), ([GREAT] * 5, -1),
        ([((True, 0), (0, 1))], 0), ([[[1]]], 0), ([None, TWO], 0), ([TWO, 3], 1), ([ONE, TWO], 1),
        ([TWO, THREE, None], 1), ([GREAT, [(1, 2), (3, 4)]], 1), ([GREAT, GREAT, None], 2),
        ([TWO, TWO, ((0, False), (0, 0)), ONE], 2), ([TWO, GREAT, TWO, ONE], 3), ([FOUR, FOUR, FOUR, THREE], 3),
    ]


def refuses_tables(case, call, *behind):
    """What is no list of tables is refused ahead of all that is handed in behind it."""
    for tables, at in wrong_tables():
        error = refusal(case, NoTables, call, tables, *behind)
        case.assertEqual(error.at, at, tables)
        case.assertIs(type(error.at), int)


def refuses_table(case, call, *behind):
    """What is no table is refused ahead of all that is handed in behind it."""
    for thing in no_tables_at_all() + [[TWO], [ONE], (TWO,), ((1, 2, 3), (4, 5, 6))]:
        refusal(case, NoTable, call, thing, *behind)


def below(case, at, call, tables, *behind):
    error = refusal(case, Below, call, tables, *behind)
    case.assertEqual(kinds_in(error.at), (int, at))


def refuses_below(case, call, *behind):
    """Tables with a number below 0 are refused ahead of what is handed in behind them, but behind what is no table."""
    for table in (ONE, TWO, THREE, FOUR, GREAT):
        for i, j in itertools.product(range(len(table)), repeat=2):
            low = marked(table, i, j, -1)
            below(case, 0, call, [low], *behind)
            below(case, 0, call, [low, table, low], *behind)
            below(case, 1, call, [table, marked(table, i, j, -(10 ** 99))], *behind)
            below(case, 2, call, [table, table, low, low], *behind)
            below(case, 3, call, [table, table, table, low], *behind)
    low = marked(TWO, 0, 1, -4)
    for tables, at in (([low, None], 1), ([low, TWO, ONE], 2), ([low, low, low, []], 3), ([low] * 5, -1)):
        case.assertEqual(refusal(case, NoTables, call, tables, *behind).at, at)


def wrong_places(many):
    """Things that are no place in a list of so many."""
    things = [thing for thing in whatever() if kinds_in(thing) not in [(int, at) for at in range(many)]]
    return things + [many, many + 1, -1, -many, (0,), [0], True, False, "0", None, 10 ** 99]


def wrong_ways_or_none(many):
    """Things that are no way of so many tables, nor ()."""
    things = [thing for thing in whatever() if thing != ()]
    return things + [[], [0], (many,), (-1,), (0, many), (True,), (False,), (0, None), (0,) * 201, {}, "", ((),),
                     (0, (0,)), ("0",), (0,) * 199 + (many,), (0, True), (0, 10 ** 99), {0: 0}]


def wrong_ways(many):
    return wrong_ways_or_none(many) + [()]


def wrong_rests():
    told = [thing for thing in whatever() if kinds_in(thing) != (int, 3)]
    return told + [0, 1, 8, 9, -2, -7, 10 ** 99, True, False, "2", "7", (2,), [2], {2: 2}, None]


def wrong_rows(size):
    """Things that are no row of so many numbers."""
    row = (1, 0, -2, 10 ** 20)[:size]
    told = whatever() + [row + (0,), row[1:], row + row, (row,), [row], list(row), {at: at for at in row}, str(row),
                         (0,) * (size + 1), deep(row, 18)]
    for at in range(size):
        for other in (None, True, False, "1", "", (1,), [0], {}, ()):
            told.append(row[:at] + (other,) + row[at + 1:])
    return told


def shut(rows):
    return tuple([tuple(row) for row in rows])


def drawer(seed):
    """The same numbers each time, of a seed."""
    return random.Random(seed)


def drawn(draw, size, low, high):
    """A table of numbers from low to high."""
    return shut([[draw.randint(low, high) for k in range(size)] for row in range(size)])


def times(one, other):
    """The product by the words of 1.3, apart from the package's own."""
    return shut([[sum(one[i][k] * other[k][j] for k in range(len(one))) for j in range(len(one))]
                 for i in range(len(one))])


def way_product(tables, way):
    told = tables[way[0]]
    for place in way[1:]:
        told = times(told, tables[place])
    return told


def ways_of(many, places):
    """All ways of so many places, as tuples rise."""
    return list(itertools.product(range(many), repeat=places))


def row_led(row, table):
    return tuple([sum(row[i] * table[i][j] for i in range(len(row))) for j in range(len(row))])


def units(size):
    return [tuple([int(i == j) for j in range(size)]) for i in range(size)]


def fading(draw, size, many):
    """Tables all ways of which come to nought: noughts on and below the middle, seen by other lines."""
    there, back = [list(row) for row in units(size)], [list(row) for row in units(size)]
    for turn in range(size if size > 1 else 0):
        one, other = draw.sample(range(size), 2)
        often = draw.choice((-2, -1, 1, 2))
        for k in range(size):
            there[one][k] += often * there[other][k]
            back[k][other] -= often * back[k][one]
    tables = []
    for at in range(many):
        steps = [[draw.randint(-2, 2) if j > i else 0 for j in range(size)] for i in range(size)]
        tables.append(times(times(shut(back), shut(steps)), shut(there)))
    return tables


def nought(size):
    return ((0,) * size,) * size


def thinned(draw, size):
    """A table with few numbers other than 0, none below 0."""
    table = nought(size)
    for often in range(size):
        table = marked(table, draw.randrange(size), draw.randrange(size), draw.choice((1, 3, 10 ** 11)))
    return table


def marked(table, i, j, number):
    """The table with another number at (i, j)."""
    rows = [list(row) for row in table]
    rows[i][j] = number
    return shut(rows)


def all_marks(size):
    """All tables of noughts and ones of a size."""
    for numbers in itertools.product(range(2), repeat=size * size):
        yield tuple([numbers[size * k:size * k + size] for k in range(size)])


def bent_rows(row):
    """Things of every kind in the place of a row and of each of its places."""
    told = whatever() + [list(row), {place: place for place in row}, str(row), (row,), [row], deep(row, 18)]
    for at, place in enumerate(row):
        others = [None, bool(place), str(place), (place,), [place], {place: place}, -1, len(row), 10 ** 99]
        told += [row[:at] + (other,) + row[at + 1:] for other in others]
    return told
