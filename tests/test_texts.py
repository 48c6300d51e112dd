"""10.1: table_shown, table_read; 10.2: tables_shown, tables_read."""

import itertools
import unittest

from helper import FOUR, GREAT, LIMIT, ONE, THREE, TWO, drawer, drawn, kinds_in, refusal, refuses_table, refuses_tables
from helper import whatever
from noughtways.errors import NoText
from noughtways.tables import along, is_table, tables_wrong
from noughtways.texts import table_read, table_shown, tables_read, tables_shown

# Tables and how they are written.
WRITTEN = [
    (((0,),), "0"), (ONE, "7"), (((-7,),), "-7"), (((10,),), "10"), (((LIMIT - 1,),), "999999999999"),
    (((1 - LIMIT,),), "-999999999999"), (((1, 0), (-2, 5)), "1 0/-2 5"), (TWO, "1 2/3 4"),
    (((0, 0), (0, 0)), "0 0/0 0"), (THREE, "1 2 3/4 5 6/7 8 9"), (FOUR, "1 2 3 4/5 6 7 8/9 10 11 12/13 14 15 16"),
    (((-1, -10), (100, -123456789012)), "-1 -10/100 -123456789012"),
]
# Words that are no number so written.
WRONG_WORDS = [
    "", "-", "--1", "+1", "+0", "-0", "00", "01", "-01", "007", "1.0", "1e3", "0x1", "a", "1a", "a1", "1_0", "1,0",
    "1-", "-1-", "1234567890123", "-1234567890123", "0000000000001", "1000000000000", "None", "True", "~", "(1)",
    "'1'", "\t1", "1\n", "\n", "1\r", "\u0661", "\u00b2", "\uff11", "\u22121", "1\u00a0",
]


def figures(number):
    """The number's figures, one after the other."""
    told = ""
    left = abs(number)
    while left:
        told = "0123456789"[left % 10] + told
        left //= 10
    return ("-" if number < 0 else "") + (told or "0")


def no_texts():
    return [thing for thing in whatever() if not isinstance(thing, str)] + [["1"], ("1",), {"1": "1"}, ONE, [ONE], b"1"]


class TestTableShown(unittest.TestCase):

    def test_written_out(self):
        for table, text in WRITTEN:
            self.assertEqual(kinds_in(table_shown(table)), (str, text))

    def test_more_figures_are_written_out(self):
        self.assertEqual(table_shown(GREAT), "1000000000000 0/0 1")
        for number in (10 ** 63, 10 ** 64 - 1, 10 ** 64, -(10 ** 64), 10 ** 64 + 1, 10 ** 127, 10 ** 128 - 1, 10 ** 128,
                       10 ** 128 + 10 ** 64, 7 ** 300, -(7 ** 300), 5 * 10 ** 200 + 3):
            self.assertEqual(table_shown(((number,),)), figures(number))

    def test_very_many_figures(self):
        great = along([((10 ** 11,),)], (0,) * 200)
        great = along([great], (0,) * 5)
        self.assertEqual(table_shown(great), "1" + "0" * 11000)
        self.assertEqual(table_shown(((1 - great[0][0],),)), "-" + "9" * 11000)
        self.assertEqual(tables_shown([great, ((4,),)]), "1" + "0" * 11000 + "\n4")

    def test_no_table(self):
        refuses_table(self, table_shown)


class TestTableRead(unittest.TestCase):

    def wrong(self, at, text):
        self.assertEqual(kinds_in(refusal(self, NoText, table_read, text).at), (int, at), text)

    def test_written_out(self):
        for table, text in WRITTEN:
            self.assertEqual(kinds_in(table_read(text)), kinds_in(table))

    def test_back_and_forth(self):
        draw = drawer(101)
        for often in range(100):
            table = drawn(draw, draw.randint(1, 4), -draw.choice((1, 20, LIMIT - 1)), draw.choice((1, 20, LIMIT - 1)))
            self.assertEqual(kinds_in(table_read(table_shown(table))), kinds_in(table))
            self.assertIs(is_table(table_read(table_shown(table))), True)

    def test_what_is_no_text(self):
        for thing in no_texts():
            self.wrong(0, thing)

    def test_an_empty_text_and_other_texts(self):
        for text in ("", " ", "/", "//", "a", "-", "+", "0 0", "1 2 3", "(0,)", "put 1", "1;0", "1,0/0,1", "~", "\n"):
            self.wrong(1, text)

    def test_a_word_that_is_no_number_so_written(self):
        for word in WRONG_WORDS:
            self.wrong(1, word)
            self.wrong(1, word + " 1/1 1")
            self.wrong(1, "1 " + word + "/1 1")
            self.wrong(2, "1 1/" + word + " 1")
            self.wrong(2, "1 1/1 " + word)
            self.wrong(3, "1 1 1/1 1 1/1 " + word + " 1")
            self.wrong(4, "1 1 1 1/1 1 1 1/1 1 1 1/1 1 1 " + word)

    def test_the_first_row_that_is_wrong(self):
        for text, at in (("1 x/x 1", 1), ("1 1/x 1", 2), ("1 1 1/1 x 1/x 1 1", 2), ("1 1 1/1 1/x", 2), ("1/1", 1),
                         ("1 1 1/x x x/1", 2), ("x/x/x/x/x", 1), ("1 1/1 1/1 1", 1), ("1 1 1/1 1 1", 1)):
            self.wrong(at, text)

    def test_another_number_of_words(self):
        for size in range(1, 5):
            for at, many in itertools.product(range(size), range(1, 7)):
                rows = [" ".join(["1"] * size)] * size
                rows[at] = " ".join(["1"] * many)
                if many == size:
                    self.assertEqual(table_read("/".join(rows)), ((1,) * size,) * size)
                else:
                    self.wrong(at + 1, "/".join(rows))

    def test_two_blanks_and_blanks_at_the_ends(self):
        for size in range(1, 5):
            for at in range(size):
                for row in (" " + " ".join(["1"] * size), " ".join(["1"] * size) + " ", "  ".join(["1"] * size) + "  "):
                    rows = [" ".join(["1"] * size)] * size
                    rows[at] = row
                    self.wrong(at + 1, "/".join(rows))
        self.wrong(1, "1  0/0 1")
        self.wrong(2, "1 0/0  1")
        self.wrong(1, "1 /0 1")
        self.wrong(2, "1 0/ 1")

    def test_a_fifth_row(self):
        row = "1 1 1 1 1"
        self.wrong(5, "/".join([row] * 5))
        self.wrong(3, "/".join([row, row, "1 1 1 1", row, row]))
        self.wrong(4, "/".join([row, row, row, "1 1 1 1 01", row]))
        self.wrong(5, "/".join([row] * 4 + ["x"]))
        self.wrong(1, "/".join(["1 1 1 1"] * 5))
        self.wrong(5, "/".join(["1 1 1 1 1 1"] * 6))
        self.wrong(1, "/".join([row] * 6))
        self.wrong(1, "1 1/1 1/")
        self.wrong(1, "/1 1/1 1")

    def test_each_sign_alone(self):
        for sign in [chr(number) for number in range(256)]:
            if sign in "0123456789":
                self.assertEqual(table_read(sign), (("0123456789".index(sign),),))
            else:
                self.wrong(1, sign)
                self.wrong(1, "1" + sign)
                if sign != "-":
                    self.wrong(1, sign + "1")

    def test_all_short_texts(self):
        for many in range(1, 5):
            for signs in itertools.product("01- /", repeat=many):
                text = "".join(signs)
                rows = [row.split(" ") for row in text.split("/")]
                good = [len(row) == len(rows) and all(is_number(word) for word in row) for row in rows]
                if all(good) and len(rows) < 5:
                    due = tuple([tuple([int(word) for word in row]) for row in rows])
                    self.assertEqual(kinds_in(table_read(text)), kinds_in(due))
                else:
                    self.wrong(good.index(False) + 1, text)


def is_number(word):
    """By the words of 10.1: it is written as the number that it is."""
    try:
        return str(int(word)) == word
    except ValueError:
        return False


class TestTablesShown(unittest.TestCase):

    def test_written_out(self):
        for tables, text in (
                ([ONE], "7"), ([TWO], "1 2/3 4"), ([ONE, ((-2,),)], "7\n-2"),
                ([TWO, ((0, 1), (1, 0))], "1 2/3 4\n0 1/1 0"), ([ONE] * 4, "7\n7\n7\n7"),
                ([GREAT], "1000000000000 0/0 1")):
            self.assertEqual(kinds_in(tables_shown(tables)), (str, text))

    def test_no_tables(self):
        refuses_tables(self, tables_shown)


class TestTablesRead(unittest.TestCase):

    def wrong(self, at, text):
        self.assertEqual(kinds_in(refusal(self, NoText, tables_read, text).at), (int, at), text)

    def test_written_out(self):
        for text, due in (
                ("7", [ONE]), ("0\n-1", [((0,),), ((-1,),)]), ("1 2/3 4\n0 1/1 0", [TWO, ((0, 1), (1, 0))]),
                ("1 2/3 4\n" * 3 + "1 2/3 4", [TWO] * 4), ("7\n7\n7\n7", [ONE] * 4)):
            self.assertEqual(kinds_in(tables_read(text)), kinds_in(due))

    def test_back_and_forth(self):
        draw = drawer(102)
        for often in range(100):
            size = draw.randint(1, 4)
            tables = [drawn(draw, size, 1 - LIMIT, LIMIT - 1) for at in range(draw.randint(1, 4))]
            self.assertEqual(kinds_in(tables_read(tables_shown(tables))), kinds_in(tables))
            self.assertIsNone(tables_wrong(tables_read(tables_shown(tables))))

    def test_what_is_no_text(self):
        for thing in no_texts():
            self.wrong(0, thing)

    def test_a_fifth_one(self):
        self.wrong(5, "\n".join(["1"] * 5))
        self.wrong(5, "\n".join(["1"] * 7))
        self.wrong(5, "1\n1\n1\n1\n")
        self.wrong(5, "1\n1\n1\n1\nx")
        self.wrong(3, "1\n1\nx\n1\n1")

    def test_one_that_is_not_so_written(self):
        texts = ["1 1", "1/1", "1 1/1 1/1", "1 1/1 01", "1 1/1  1", "1 1/1 1 ", " 1", "1 1/1 1/"]
        for wrong in texts + [word for word in WRONG_WORDS if "\n" not in word]:
            for at in range(4):
                for good in ("1 1/1 1", "5"):
                    self.wrong(at + 1, "\n".join([good] * at + [wrong] + [good] * (3 - at)))
                    self.wrong(at + 1, "\n".join([good] * at + [wrong]))

    def test_one_of_another_size(self):
        texts = {len(table): text for table, text in WRITTEN}
        for one, other in itertools.permutations(texts, 2):
            for at in range(1, 4):
                self.wrong(at + 1, "\n".join([texts[one]] * at + [texts[other]]))
                self.wrong(at + 1, "\n".join([texts[one]] * at + [texts[other]] + [texts[one]] * (3 - at)))
        self.wrong(2, "1\n1 1/1 1\nx")
        self.wrong(2, "1\nx\n1 1/1 1")

    def test_other_texts(self):
        for text in ("", "\n", " ", "a", "\n1", "~", "1 0/0 1/"):
            self.wrong(1, text)
        for text in ("1\n", "1\n\n1", "1\n 1", "1\n\n"):
            self.wrong(2, text)
        self.wrong(1, "1\r\n1")
        self.wrong(1, "1;1")

    def test_the_list_is_the_askers_own(self):
        told = tables_read("1\n2")
        told[0] = None
        told.append(None)
        self.assertEqual(tables_read("1\n2"), [((1,),), ((2,),)])


if __name__ == "__main__":
    unittest.main()
