"""What several test files need: things of every kind, and how a refusal is looked at."""

LIMIT = 10 ** 12

ONE = ((7,),)
TWO = ((1, 2), (3, 4))
THREE = ((1, 2, 3), (4, 5, 6), (7, 8, 9))
FOUR = ((1, 2, 3, 4), (5, 6, 7, 8), (9, 10, 11, 12), (13, 14, 15, 16))
GREAT = ((LIMIT, 0), (0, 1))


def deep(thing, often):
    """The thing within lists, tuples and dicts by turns."""
    for turn in range(often):
        thing = ([thing], (thing,), {"in": thing})[turn % 3]
    return thing


def whatever():
    """Things of every kind that may be handed in; none is a table, a list of tables or a way."""
    return [
        None, True, False, 0, 1, -1, 3, 10 ** 99, -(10 ** 99),
        "", " ", "0", "1 0/0 1", "(0,)", "~",
        [], [0], [0, 1], [None], [[]], [()], [[1, 2], [3, 4]], ["ab", "cd"],
        (), ((),), ([],), (None,), (True,), ("",), ("a",), ("ab", "cd"), ({},), ((0,), (1,)),
        {}, {0: 0}, {0: ((1,),)}, {"a": [1, (2, {})]}, {(0,): None},
        deep(0, 20), deep(None, 20), deep(((1,),), 18), deep([], 19), deep((), 19), deep({}, 19),
    ]


def no_tables_at_all():
    """Things that are no table, whatever their numbers may be."""
    return whatever() + [
        (), tuple([(0, 0, 0, 0, 0)] * 5),
        [[1]], [(1,)], ([1],), [(1, 2), (3, 4)], ([1, 2], (3, 4)), ((1, 2), [3, 4]), ((1, 2), {3: 0, 4: 0}),
        ((1, 2), (3,)), ((1,), (2, 3)), ((1, 2, 3), (4, 5, 6)), ((1, 2), (3, 4), (5, 6)), ((1, 2, 3),),
        ((1, 2), (3, 4, 5)), ((1, 2), ()), ((1, 2), 3), ((1, 2), "34"), (1, 2), (1,),
        ((True,),), ((False,),), ((None,),), (("1",),), (([1],),), (((1,),),), (({},),),
        ((1, 2), (3, True)), ((1, False), (3, 4)), ((1, None), (3, 4)), ((1, 2), ("3", 4)), ((1, 2), (3, (4,))),
    ]


def kinds_in(thing):
    """The thing with each value's class beside it, so that 1 and True are told apart."""
    if isinstance(thing, (list, tuple)):
        return (type(thing), [kinds_in(one) for one in thing])
    if isinstance(thing, dict):
        return (dict, [(kinds_in(key), kinds_in(one)) for key, one in thing.items()])
    return (type(thing), thing)


def refusal(case, kind, call, *handed):
    """The error with which the call is refused; of this very class, and nothing handed in is changed."""
    ahead = kinds_in(handed)
    try:
        told = call(*handed)
    except kind as error:
        case.assertIs(type(error), kind)
        case.assertEqual(kinds_in(handed), ahead)
        return error
    return case.fail(f"not refused, but told {kinds_in(told)!r}")
