"""Orders and rings of places, of tables that have no number below 0."""

from noughtways.kinds import are_places, need_none_below


def is_linked(tables, one, other):
    return any([table[one][other] != 0 for table in tables])


def first_free(tables, places):
    for place in places:
        if not any([is_linked(tables, other, place) for other in places]):
            return place
    return None


def order_of(tables):
    need_none_below(tables)
    order = ()
    left = list(range(len(tables[0])))
    while left != []:
        place = first_free(tables, left)
        if place is None:
            return None
        order = order + (place,)
        left.remove(place)
    return order


def longer_rows(tables, rows):
    longer = []
    for row in rows:
        # A ring begins with its least place.
        for place in range(row[0] + 1, len(tables[0])):
            if place not in row and is_linked(tables, row[-1], place):
                longer.append(row + (place,))
    return longer


def ring_of(tables):
    need_none_below(tables)
    rows = [(place,) for place in range(len(tables[0]))]
    while rows != []:
        for row in rows:
            if is_linked(tables, row[-1], row[0]):
                return row
        rows = longer_rows(tables, rows)
    return None


def are_unlike_places(thing, many):
    return are_places(thing, many) and len(set(thing)) == len(thing)


def links_back(tables, row, at):
    return any([is_linked(tables, row[at], place) for place in row[:at + 1]])


def order_holds(tables, thing):
    need_none_below(tables)
    size = len(tables[0])
    if not are_unlike_places(thing, size) or len(thing) < size:
        return False
    return not any([links_back(tables, thing, at) for at in range(size)])


def ring_holds(tables, thing):
    need_none_below(tables)
    if not are_unlike_places(thing, len(tables[0])) or len(thing) < 1:
        return False
    # Ahead of the first place, at -1, stands the last one.
    return all([is_linked(tables, thing[at - 1], thing[at]) for at in range(len(thing))])
