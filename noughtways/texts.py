"""Tables written as texts, and read from them."""

from noughtways.errors import NoText
from noughtways.kinds import MOST_ROWS, MOST_TABLES, need_table, need_tables

FIGURES = "0123456789"
MOST_FIGURES = 12


# Python itself writes no number of more than some thousand figures.
def number_shown(number):
    parts = []
    left = abs(number)
    while left >= 10 ** 64:
        parts.append(str(left % 10 ** 64).zfill(64))
        left = left // 10 ** 64
    parts.append(str(left))
    parts.append("-" if number < 0 else "")
    parts.reverse()
    return "".join(parts)


def numbers_shown(numbers):
    return " ".join([number_shown(number) for number in numbers])


def table_shown(table):
    need_table(table)
    return "/".join([numbers_shown(row) for row in table])


def tables_shown(tables):
    need_tables(tables)
    return "\n".join([table_shown(table) for table in tables])


def is_number(word):
    figures = word[1:] if word.startswith("-") else word
    if len(figures) < 1 or len(figures) > MOST_FIGURES or not all([figure in FIGURES for figure in figures]):
        return False
    return word == "0" or figures[0] != "0"


def is_row_of_numbers(text, many):
    words = text.split(" ")
    return len(words) == many and all([is_number(word) for word in words])


def wrong_row(text):
    rows = text.split("/")
    for at in range(len(rows)):
        if at == MOST_ROWS or not is_row_of_numbers(rows[at], len(rows)):
            return at + 1
    return None


def need_text(thing):
    if not isinstance(thing, str):
        raise NoText(0)


def table_read(text):
    need_text(text)
    at = wrong_row(text)
    if at is not None:
        raise NoText(at)
    return tuple([tuple([int(word) for word in row.split(" ")]) for row in text.split("/")])


def tables_read(text):
    need_text(text)
    tables = []
    for shown in text.split("\n"):
        if len(tables) == MOST_TABLES or wrong_row(shown) is not None:
            raise NoText(len(tables) + 1)
        tables.append(table_read(shown))
        if len(tables[-1]) != len(tables[0]):
            raise NoText(len(tables))
    return tables
