"""Ways to nought, and fences of lines that show that there is none, of tables of size 2."""

from noughtways.errors import TooGreat
from noughtways.kinds import is_fence, need_tables
from noughtways.lines import line_behind, lost_line, made_line, need_line, need_size_two
from noughtways.ranks import is_line, rank
from noughtways.tables import is_nought

MOST_LOOKED_AT = 12


def need_twos(thing):
    need_tables(thing)
    need_size_two(len(thing[0]))


def need_few_places(most):
    if most > MOST_LOOKED_AT:
        raise TooGreat(most, MOST_LOOKED_AT)


def places_of_rank(tables, due):
    return [at for at in range(len(tables)) if rank(tables[at]) == due]


def keep_least(ways, line, way):
    if line not in ways or way < ways[line]:
        ways[line] = way


# The table by which, of one of rank 2, each line that was led on is led back.
def back_table(table):
    return ((table[1][1], -table[0][1]), (-table[1][0], table[0][0]))


def longer_ahead(tables, ahead):
    longer = {}
    for at in places_of_rank(tables, 2):
        for line in ahead:
            keep_least(longer, line_behind(tables[at], line), ahead[line] + (at,))
    return longer


def longer_behind(tables, behind):
    longer = {}
    for at in places_of_rank(tables, 2):
        back = back_table(tables[at])
        for line in behind:
            keep_least(longer, line_behind(back, line), (at,) + behind[line])
    return longer


def losing(tables):
    behind = {}
    for at in places_of_rank(tables, 1):
        keep_least(behind, lost_line(tables[at]), (at,))
    return behind


# A shortest way has no table of rank 1 but at its first and its last place: else it would be one, too, begun with
# that table. So the lines met behind the first place, begun, go on by tables of rank 2 alone, and those that the last
# one loses go back by them; both meet half way, which keeps them few.
def way_between(tables, begun, most):
    ahead = begun
    behind = losing(tables)
    places = 2
    while places <= most and behind != {}:
        found = [ahead[line] + behind[line] for line in ahead if line in behind]
        if found != []:
            return min(found)
        if len(ahead) < len(behind):
            ahead = longer_ahead(tables, ahead)
        else:
            behind = longer_behind(tables, behind)
        places = places + 1
    return None


def making(tables):
    begun = {}
    for at in range(len(tables)):
        if is_nought(tables[at]):
            keep_least(begun, None, (at,))
        elif rank(tables[at]) == 1:
            keep_least(begun, made_line(tables[at]), (at,))
    return begun


def leading(tables, line):
    begun = {}
    for at in range(len(tables)):
        keep_least(begun, line_behind(tables[at], line), (at,))
    return begun


# None in the place of a line is nought.
def way_from(tables, begun, most):
    if None in begun and most >= 1:
        return begun[None]
    return way_between(tables, begun, most)


def shortest(tables, most):
    need_twos(tables)
    need_few_places(most)
    return way_from(tables, making(tables), most)


def line_way(tables, line, most):
    need_twos(tables)
    need_line(line)
    need_few_places(most)
    return way_from(tables, leading(tables, line), most)


def made_lines(tables):
    return [made_line(tables[at]) for at in places_of_rank(tables, 1)]


def lines_behind(tables, lines):
    led_on = []
    for table in tables:
        led_on.extend([line_behind(table, line) for line in lines])
    return led_on


def fence_of(tables, most):
    need_twos(tables)
    if places_of_rank(tables, 0) != []:
        return None
    fence = {}
    fresh = made_lines(tables)
    while fresh != []:
        for line in fresh:
            fence[line] = True
        # Lines may come without end.
        if len(fence) > most:
            return None
        met = lines_behind(tables, fresh)
        if None in met:
            return None
        fresh = [line for line in sorted(set(met)) if line not in fence]
    return sorted(fence)


def fence_holds(tables, thing):
    need_twos(tables)
    if places_of_rank(tables, 0) != []:
        return False
    return is_fence(
        thing, lambda one: is_line(one, 2), made_lines(tables),
        lambda line, at: line_behind(tables[at], line), len(tables))
