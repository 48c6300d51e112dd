"""A desk: it keeps a list of tables, is told rows, one at a time, and answers each with a text."""

from noughtways.allways import all_nought, first_left
from noughtways.changes import powered
from noughtways.counts import ways_many
from noughtways.errors import NoRow, NoTables, TooGreat
from noughtways.kinds import MOST_TABLES, need_place, need_tables
from noughtways.ranks import determinant, rank
from noughtways.rests import barred_by, rest_way
from noughtways.rowways import column_of, lost_by
from noughtways.signs import sign_fence, sign_way
from noughtways.tables import along, turned
from noughtways.texts import is_number, numbers_shown, table_read, table_shown

PUT = "put "
MOST_OFTEN = 6
MOST_COUNTED = 60


def numbers_or_none(numbers):
    if numbers is None or len(numbers) == 0:
        return "none"
    return numbers_shown(numbers)


def number_or_none(number):
    return numbers_or_none(None if number is None else [number])


def with_put(tables, text):
    table = table_read(text)
    if tables != [] and len(table) != len(tables[0]):
        raise NoTables(len(tables))
    if len(tables) == MOST_TABLES:
        raise TooGreat(MOST_TABLES + 1, MOST_TABLES)
    return tables + [table]


def with_drop(tables, numbers):
    need_place(numbers[0], len(tables))
    return tables[:numbers[0]] + tables[numbers[0] + 1:]


def with_power(tables, numbers):
    need_place(numbers[0], len(tables))
    if numbers[1] > MOST_OFTEN:
        raise TooGreat(numbers[1], MOST_OFTEN)
    return powered(tables, numbers[0], numbers[1])


# Of no tables, too, all are turned: turned_all would refuse them.
def with_turn(tables, numbers):
    return [turned(table) for table in tables]


def shown(tables, numbers):
    need_place(numbers[0], len(tables))
    return table_shown(tables[numbers[0]])


def product_shown(tables, numbers):
    return table_shown(along(tables, tuple(numbers)))


def ranks_shown(tables, numbers):
    return numbers_shown([rank(table) for table in tables])


def determinants_shown(tables, numbers):
    return numbers_shown([determinant(table) for table in tables])


def all_shown(tables, numbers):
    return "yes" if all_nought(tables) else "no"


def left_shown(tables, numbers):
    return numbers_or_none(first_left(tables))


def signs_shown(tables, numbers):
    return numbers_or_none(sign_way(tables))


def sets_shown(tables, numbers):
    fence = sign_fence(tables)
    return number_or_none(None if fence is None else len(fence))


def rests_shown(tables, numbers):
    return numbers_or_none(rest_way(tables, numbers[0]))


def barred_shown(tables, numbers):
    return number_or_none(barred_by(tables))


def ways_shown(tables, numbers):
    if numbers[0] > MOST_COUNTED:
        raise TooGreat(numbers[0], MOST_COUNTED)
    return numbers_or_none(ways_many(tables, numbers[0]))


def lost_shown(tables, numbers):
    return numbers_or_none(lost_by(tables, tuple(numbers[1:]), numbers[0]))


def column_shown(tables, numbers):
    return numbers_or_none(column_of(tables, tuple(numbers)))


DEEDS = {"drop": with_drop, "power": with_power, "turn": with_turn}
QUESTIONS = {
    "shown": shown, "along": product_shown, "ranks": ranks_shown, "dets": determinants_shown, "all": all_shown,
    "left": left_shown, "signs": signs_shown, "sets": sets_shown, "rests": rests_shown, "barred": barred_shown,
    "ways": ways_shown, "lost": lost_shown, "column": column_shown,
}
# How many numbers stand behind each word, at least and at most; None: as many as one likes.
FORMS = {
    "drop": (1, 1), "power": (2, 2), "turn": (0, 0), "back": (0, 0), "many": (0, 0), "shown": (1, 1),
    "along": (1, None), "ranks": (0, 0), "dets": (0, 0), "all": (0, 0), "left": (0, 0), "signs": (0, 0),
    "sets": (0, 0), "rests": (1, 1), "barred": (0, 0), "ways": (1, 1), "lost": (2, None), "column": (1, None),
}
# Ahead of this many numbers none is below 0; behind words that are not here, none at all.
SIGNED_BEHIND = {"lost": 1, "column": 0}


def has_form(words):
    if words[0] not in FORMS or not all([is_number(word) for word in words[1:]]):
        return False
    least = FORMS[words[0]][0]
    most = FORMS[words[0]][1]
    many = len(words) - 1
    return many >= least and (most is None or many <= most)


def are_due(word, numbers):
    if any([number < 0 for number in numbers[:SIGNED_BEHIND.get(word, len(numbers))]]):
        return False
    return word != "power" or numbers[1] != 0


def need_row_text(thing):
    if not isinstance(thing, str):
        raise NoRow("this is no text")


def words_of(row):
    words = row.split(" ")
    if not has_form(words):
        raise NoRow("this is no row that a desk is told")
    return words


def numbers_in(words):
    numbers = [int(word) for word in words[1:]]
    if not are_due(words[0], numbers):
        raise NoRow("one of these numbers is not due here")
    return numbers


class Desk:

    def __init__(self):
        self.tables = []
        self.past = []

    def say(self, row):
        need_row_text(row)
        if row.startswith(PUT):
            return self.keep(with_put(self.tables, row[len(PUT):]))
        words = words_of(row)
        numbers = numbers_in(words)
        if words[0] == "back":
            return self.undo()
        if words[0] in DEEDS:
            return self.keep(DEEDS[words[0]](self.tables, numbers))
        return self.answer(words[0], numbers)

    # Each deed makes a list of its own, so those of the past stay as they were.
    def keep(self, tables):
        self.past.append(self.tables)
        self.tables = tables
        return "ok"

    def undo(self):
        if self.past == []:
            raise NoRow("no deed stands")
        self.tables = self.past.pop()
        return "ok"

    def answer(self, word, numbers):
        if word == "many":
            return str(len(self.tables))
        need_tables(self.tables)
        return QUESTIONS[word](self.tables, numbers)
