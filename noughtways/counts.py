"""How many ways are to nought, and which, of tables that have no number below 0."""

from noughtways.errors import NoWay
from noughtways.kinds import is_place, need_none_below, need_way, power_of
from noughtways.ranks import shared_divisor
from noughtways.signs import all_places, set_behind, sign_way, ways_to_sets


def led_on(tables, led):
    later = {}
    for places in led:
        for table in tables:
            met = set_behind(table, places)
            later[met] = later.get(met, 0) + led[places]
    return later


# At k stands, for each set, how many ways of k places lead the set of all places to it.
def led_to(tables, places):
    told = [{all_places(tables): 1}]
    for place in range(places):
        told.append(led_on(tables, told[-1]))
    return told


def ways_many(tables, places):
    need_none_below(tables)
    return [led.get((), 0) for led in led_to(tables, places)]


def fresh_many(tables, places):
    many = ways_many(tables, places)
    return many[:1] + [many[k + 1] - len(tables) * many[k] for k in range(places)]


def left_sets(tables, places):
    need_none_below(tables)
    return sorted(led_to(tables, places)[-1].items())


# At k stands, for each set that is met, how many ways of k places lead it to ().
def lost_from(tables, places):
    met = ways_to_sets(tables)
    told = [dict([(one, int(one == ())) for one in met])]
    for place in range(places):
        ahead = told[-1]
        told.append(dict([(one, sum([ahead[set_behind(table, one)] for table in tables])) for one in met]))
    return told


# How many ways to nought begin, in the place of this one, with a lesser place.
def many_ahead(tables, places, at, lost):
    return sum([lost[set_behind(table, places)] for table in tables[:at]])


def way_at(tables, places, number):
    need_none_below(tables)
    lost = lost_from(tables, places)
    led = all_places(tables)
    if not is_place(number, lost[places][led]):
        raise NoWay("there is no way to nought of this number")
    way = ()
    for later in range(places - 1, -1, -1):
        # Of places with as many ahead of them the last one alone has ways to nought.
        at = max([k for k in range(len(tables)) if many_ahead(tables, led, k, lost[later]) <= number])
        number = number - many_ahead(tables, led, at, lost[later])
        led = set_behind(tables[at], led)
        way = way + (at,)
    return way


def way_number(tables, way):
    need_none_below(tables)
    need_way(way, len(tables))
    lost = lost_from(tables, len(way))
    led = all_places(tables)
    number = 0
    for k in range(len(way)):
        number = number + many_ahead(tables, led, way[k], lost[len(way) - 1 - k])
        led = set_behind(tables[way[k]], led)
    if led != ():
        raise NoWay("this is no way to nought")
    return number


def always_from(tables):
    need_none_below(tables)
    led = led_to(tables, len(tables[0]))
    for places in range(len(led)):
        if list(led[places]) == [()]:
            return places
    return None


def ever(tables):
    return sign_way(tables) is not None


def share(tables, places):
    top = ways_many(tables, places)[-1]
    bottom = power_of(len(tables), places)
    divisor = shared_divisor(top, bottom)
    return (top // divisor, bottom // divisor)
