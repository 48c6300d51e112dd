"""Sets of places of rows, as tables without a number below 0 lead them: which numbers are 0 alone plays a part."""

from noughtways.kinds import first_ways, is_fence, is_set
from noughtways.kinds import need_none_below, need_place, need_set, need_way_or_none


def set_behind(table, places):
    return tuple([k for k in range(len(table)) if any([table[place][k] != 0 for place in places])])


def all_places(tables):
    return tuple(range(len(tables[0])))


def set_led(tables, places, at):
    need_none_below(tables)
    need_set(places, len(tables[0]))
    need_place(at, len(tables))
    return set_behind(tables[at], places)


def set_along(tables, places, way):
    need_none_below(tables)
    need_set(places, len(tables[0]))
    need_way_or_none(way, len(tables))
    told = places
    for at in way:
        told = set_behind(tables[at], told)
    return told


def ways_to_sets(tables):
    return first_ways({all_places(tables): ()}, lambda places, at: set_behind(tables[at], places), len(tables))


def sign_way(tables):
    need_none_below(tables)
    return ways_to_sets(tables).get(())


def sets_met(tables):
    need_none_below(tables)
    return sorted(ways_to_sets(tables))


def first_met(tables, places):
    need_none_below(tables)
    need_set(places, len(tables[0]))
    return ways_to_sets(tables).get(places)


def sign_fence(tables):
    met = sets_met(tables)
    return None if () in met else met


def sign_fence_holds(tables, thing):
    need_none_below(tables)
    return is_fence(
        thing, lambda one: is_set(one, len(tables[0])) and one != (), [all_places(tables)],
        lambda places, at: set_behind(tables[at], places), len(tables))
