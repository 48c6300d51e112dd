"""10.3 to 10.5: the desk, its deeds, its questions, and what it refuses."""

import unittest

from helper import LIMIT, drawer, drawn, kinds_in, refusal, thinned, whatever
from noughtways.allways import all_nought, first_left
from noughtways.changes import powered, turned_all
from noughtways.counts import ways_many
from noughtways.desk import Desk
from noughtways.errors import Below, NoRest, NoRow, NoTables, NoText, NoughtError, NoWay, TooGreat
from noughtways.ranks import determinant, rank
from noughtways.rests import barred_by, rest_way
from noughtways.rowways import column_of, lost_by
from noughtways.signs import sign_fence, sign_way
from noughtways.tables import along
from noughtways.texts import table_shown

DEEDS = ["put 1", "put 1 2/3 4", "drop 0", "power 0 2", "turn", "back"]
QUESTIONS = ["shown 0", "along 0", "along 0 0", "ranks", "dets", "all", "left", "signs", "sets", "rests 2", "barred",
             "ways 3", "lost 2 1 1", "column 1 1"]
RIGHT, LEFT, SWAP, UPPER = "put 0 1/0 0", "put 0 0/1 0", "put 0 1/1 0", "put 1 0/0 0"


def desk_of(*rows):
    desk = Desk()
    for row in rows:
        if desk.say(row) != "ok":
            raise AssertionError(row)
    return desk


def answer(desk, row):
    """What the desk answers, or the refusal's class and fields."""
    try:
        return desk.say(row)
    except NoughtError as error:
        return (type(error), vars(error))


def state(desk):
    """What the desk answers to questions."""
    return [answer(desk, row) for row in ["many", "shown 0", "shown 1", "shown 2", "shown 3", "ranks", "dets"]]


class TestCase(unittest.TestCase):

    def says(self, desk, row, due):
        self.assertEqual(kinds_in(desk.say(row)), (str, due), row)

    def refuses(self, kind, desk, row, **fields):
        """Refused, and nothing is changed."""
        ahead = state(desk)
        error = refusal(self, kind, desk.say, row)
        self.assertEqual(kinds_in(vars(error)), kinds_in(fields), row)
        self.assertEqual(state(desk), ahead)


class TestPut(TestCase):

    def test_a_table_more_behind_the_others(self):
        desk = Desk()
        self.says(desk, "many", "0")
        for at, text in enumerate(("1 0/-2 5", "0 0/0 0", "-999999999999 999999999999/7 0", "1 2/3 4")):
            self.says(desk, "put " + text, "ok")
            self.says(desk, "many", str(at + 1))
            self.says(desk, f"shown {at}", text)
        self.says(desk, "shown 0", "1 0/-2 5")

    def test_each_size(self):
        for size in range(1, 5):
            text = "/".join([" ".join(["5"] * size)] * size)
            desk = desk_of("put " + text)
            self.says(desk, "shown 0", text)

    def test_no_text_as_table_read_refuses(self):
        for desk in (Desk(), desk_of("put 1"), desk_of(*["put 1 1/1 1"] * 4)):
            for text, at in (
                    ("", 1), (" ", 1), (" 1", 1), ("1 ", 1), ("x", 1), ("1/1", 1), ("1 1/1 x", 2), ("1 1/1 01", 2),
                    ("1 1/1  1", 2), ("-0", 1), ("+1", 1), ("1234567890123", 1), ("1 1 1/1 1 1/1 1", 3), ("put 1", 1),
                    ("/".join(["1 1 1 1 1"] * 5), 5), ("1\n1", 1), ("1 1/1 1\n1 1/1 1", 1), ("%", 1)):
                self.refuses(NoText, desk, "put " + text, at=at)

    def test_another_size(self):
        texts = ["/".join([" ".join(["1"] * size)] * size) for size in range(1, 5)]
        for one in texts:
            for many in range(1, 5):
                desk = desk_of(*["put " + one] * many)
                for other in texts:
                    if other != one:
                        self.refuses(NoTables, desk, "put " + other, at=many)

    def test_a_fifth_one(self):
        desk = desk_of(*["put 1 1/1 1"] * 4)
        self.refuses(TooGreat, desk, "put 1 1/1 1", many=5, most=4)
        self.refuses(NoTables, desk, "put 1", at=4)
        self.refuses(NoText, desk, "put 1 1/1 1/1 1", at=1)
        self.says(desk, "drop 2", "ok")
        self.says(desk, "put 1 1/1 1", "ok")

    def test_any_size_where_all_are_dropped(self):
        desk = desk_of("put 1", "drop 0", "put 1 2/3 4")
        self.says(desk, "many", "1")


class TestDrop(TestCase):

    def test_the_table_is_taken_away(self):
        for at, left in enumerate(("234", "134", "124", "123")):
            desk = desk_of("put 1", "put 2", "put 3", "put 4", f"drop {at}")
            self.says(desk, "many", "3")
            self.assertEqual("".join(desk.say(f"shown {k}") for k in range(3)), left)
        desk = desk_of("put 1", "drop 0")
        self.says(desk, "many", "0")

    def test_no_such_place(self):
        self.refuses(NoWay, Desk(), "drop 0")
        for many in range(1, 5):
            desk = desk_of(*["put 1"] * many)
            for at in (many, many + 1, 999999999999):
                self.refuses(NoWay, desk, f"drop {at}")


class TestPower(TestCase):

    def test_its_power_in_its_stead(self):
        for often in range(1, 7):
            desk = desk_of("put 3", "put -2", "put 5", f"power 1 {often}")
            self.assertEqual([desk.say(f"shown {at}") for at in range(3)], ["3", str((-2) ** often), "5"])
        desk = desk_of("put 1 1/0 1", "power 0 5", "power 0 2")
        self.says(desk, "shown 0", "1 10/0 1")

    def test_more_figures_than_twelve(self):
        desk = desk_of("put 999999999999", "power 0 6")
        self.says(desk, "shown 0", str(999999999999 ** 6))
        desk = desk_of("put -100000000000", "power 0 5", "power 0 3")
        self.says(desk, "shown 0", "-1" + "0" * 165)
        self.says(desk, "dets", "-1" + "0" * 165)
        self.says(desk, "along 0 0", "1" + "0" * 330)

    def test_very_many_figures(self):
        desk = desk_of("put 100000000000", *["power 0 6"] * 4)
        self.says(desk, "shown 0", "1" + "0" * 14256)
        self.says(desk, "dets", "1" + "0" * 14256)
        self.says(desk, "along 0 0", "1" + "0" * 28512)
        self.says(desk, "rests 5", "0")

    def test_no_such_place_then_too_great(self):
        self.refuses(NoWay, Desk(), "power 0 1")
        self.refuses(NoWay, Desk(), "power 0 7")
        desk = desk_of("put 2", "put 3")
        for often in (1, 6, 7, 999999999999):
            self.refuses(NoWay, desk, f"power 2 {often}")
            self.refuses(NoWay, desk, f"power 999999999999 {often}")
        for often in (7, 8, 60, 999999999999):
            self.refuses(TooGreat, desk, f"power 0 {often}", many=often, most=6)
            self.refuses(TooGreat, desk, f"power 1 {often}", many=often, most=6)
        self.refuses(NoRow, desk, "power 0 0")
        self.refuses(NoRow, desk, "power 2 0")
        self.refuses(NoRow, Desk(), "power 0 0")


class TestTurn(TestCase):

    def test_all_tables_turned(self):
        desk = desk_of("put 1 2/3 4", "put 0 1/0 0", "turn")
        self.says(desk, "shown 0", "1 3/2 4")
        self.says(desk, "shown 1", "0 0/1 0")
        self.says(desk, "turn", "ok")
        self.says(desk, "shown 0", "1 2/3 4")

    def test_of_no_tables(self):
        desk = Desk()
        self.says(desk, "turn", "ok")
        self.says(desk, "many", "0")
        self.says(desk, "back", "ok")
        self.refuses(NoRow, desk, "back")


class TestBack(TestCase):

    def test_where_none_stands(self):
        self.refuses(NoRow, Desk(), "back")
        desk = desk_of("put 1", "back")
        self.refuses(NoRow, desk, "back")
        desk = desk_of("put 1", "drop 0", "back", "back")
        self.refuses(NoRow, desk, "back")
        self.says(desk, "many", "0")

    def test_of_each_deed(self):
        begun = ["put 1 2/3 4", "put 0 1/0 0"]
        for deed in ("put 5 5/5 5", "drop 0", "drop 1", "power 0 3", "power 1 1", "turn"):
            desk = desk_of(*begun)
            ahead = state(desk)
            self.says(desk, deed, "ok")
            self.says(desk, "back", "ok")
            self.assertEqual(state(desk), ahead)
            self.says(desk, "back", "ok")
            self.says(desk, "many", "1")

    def test_of_several(self):
        deeds = ["put 1 2/3 4", "put 0 1/0 0", "turn", "power 0 3", "drop 1", "put 9 9/9 9", "drop 0", "turn"]
        desk = Desk()
        states = []
        for deed in deeds:
            states.append(state(desk))
            self.says(desk, deed, "ok")
        for due in states[::-1]:
            self.says(desk, "back", "ok")
            self.assertEqual(state(desk), due)
        self.refuses(NoRow, desk, "back")

    def test_back_is_no_deed_to_undo(self):
        desk = desk_of("put 1", "put 2", "put 3", "back", "back")
        self.says(desk, "many", "1")
        self.says(desk, "shown 0", "1")
        desk = desk_of("put 1", "put 2", "back", "put 3", "back")
        self.says(desk, "many", "1")

    def test_a_refused_deed_is_no_deed(self):
        desk = desk_of("put 1", "put 2")
        for row in ("put 1 2/3 4", "drop 5", "power 0 7", "power 0 0", "put x", "turn 1", "undo", None):
            self.assertRaises(NoughtError, desk.say, row)
        self.says(desk, "back", "ok")
        self.says(desk, "many", "1")
        self.says(desk, "shown 0", "1")

    def test_questions_are_no_deeds(self):
        desk = desk_of("put 1 0/0 1", "put 0 1/1 0")
        for row in QUESTIONS + ["many"]:
            desk.say(row)
        self.says(desk, "back", "ok")
        self.says(desk, "many", "1")
        self.says(desk, "shown 0", "1 0/0 1")


class TestQuestions(TestCase):

    def test_worked_out_by_hand(self):
        for rows, question, due in (
                ((), "many", "0"), (("put 5",), "many", "1"), (("put 5",) * 4, "many", "4"),
                (("put 5", "put -7"), "shown 1", "-7"), (("put 5", "put -7"), "along 0", "5"),
                (("put 5", "put -7"), "along 1 0 1", "245"), ((RIGHT, LEFT), "along 0 1", "1 0/0 0"),
                ((RIGHT, LEFT), "along 1 0", "0 0/0 1"), ((RIGHT, LEFT), "along 0 0", "0 0/0 0"),
                ((RIGHT, SWAP, "put 0 0/0 0"), "ranks", "1 2 0"), (("put 1 2/3 4", SWAP), "dets", "-2 -1"),
                (("put 5",), "dets", "5"), (("put 0",), "ranks", "0"), ((RIGHT,), "all", "yes"),
                ((RIGHT, LEFT), "all", "no"), (("put 1 -1/1 -1",), "all", "yes"), ((RIGHT,), "left", "none"),
                ((RIGHT, LEFT), "left", "0 1"), (("put 5",), "left", "0"), ((SWAP,), "signs", "none"),
                ((SWAP, UPPER), "signs", "1 0 1"), (("put 0",), "signs", "0"), ((RIGHT,), "sets", "none"),
                ((SWAP,), "sets", "1"), (("put 1 0/1 0", SWAP), "sets", "3"), ((SWAP,), "rests 2", "none"),
                (("put 2", "put 3"), "rests 6", "0 1"), (("put 7",), "rests 7", "0"), (("put 6",), "barred", "5"),
                (("put 210",), "barred", "none"), ((SWAP,), "barred", "2"), ((RIGHT, LEFT), "ways 4", "0 0 2 6 14"),
                ((RIGHT, LEFT), "ways 0", "0"), ((SWAP,), "ways 2", "0 0 0"), ((SWAP,), "lost 3 3 -6", "none"),
                ((SWAP,), "lost 3 1 0", "none"), (("put 2", "put 3"), "lost 6 1", "0 1"),
                ((RIGHT,), "lost 5 1 0", "0 0"),
                ((RIGHT,), "lost 7 0 -999999999998", "0"), ((RIGHT,), "lost 7 0 -999999999999", "none"),
                ((SWAP,), "column 1 0", "-2 -2"),
                ((SWAP,), "column 1 -1", "-2 2"), ((RIGHT,), "column 1 0", "none"), (("put 0",), "column 1", "none"),
                (("put 1 0 0/0 1 0/0 0 1",), "column 1 -1 0", "-2 -1 -2"), (("put 3",), "column 0", "none")):
            self.says(desk_of(*rows), question, due)

    def test_more_figures_than_twelve(self):
        desk = desk_of("put 999999999999 1/0 999999999999", "put 0 1/1 0")
        self.says(desk, "dets", f"{999999999999 ** 2} -1")
        self.says(desk, "along" + " 0" * 200, table_shown(along([((LIMIT - 1, 1), (0, LIMIT - 1))], (0,) * 200)))
        desk = desk_of(*["put 0"] * 4)
        self.says(desk, "ways 60", "0 " + " ".join(str(4 ** k) for k in range(1, 61)))

    def test_of_no_tables(self):
        for desk in (Desk(), desk_of("put 1", "drop 0"), desk_of("put 1", "back"), desk_of("turn")):
            for row in QUESTIONS + ["shown 9", "along 9", "rests 9", "ways 61", "lost 9 1", "column 1 2 3 4 5 6",
                                    "along" + " 0" * 201]:
                self.refuses(NoTables, desk, row, at=-1)
            self.says(desk, "many", "0")

    def test_as_the_stages_tell(self):
        draw = drawer(103)
        for often in range(60):
            size = draw.randint(1, 4)
            many = draw.randint(1, 4)
            tables = [drawn(draw, size, -1, 2) if often % 3 else thinned(draw, size) for at in range(many)]
            row = tuple([draw.randint(-4, 4) for k in range(size)])
            desk = desk_of(*["put " + table_shown(table) for table in tables])
            self.looked_at(desk, tables, row)

    def looked_at(self, desk, tables, row):
        numbers = " ".join([str(number) for number in row])
        for question, call, handed in (
                ("all", all_nought, ()), ("left", first_left, ()), ("signs", sign_way, ()), ("rests 2", rest_way, (2,)),
                ("rests 5", rest_way, (5,)), ("barred", barred_by, ()), ("ways 9", ways_many, (9,)),
                (f"lost 2 {numbers}", lost_by, (row, 2)), (f"lost 5 {numbers}", lost_by, (row, 5)),
                (f"column {numbers}", column_of, (row,)), ("sets", sign_fence, ()), ("along 0 0", along, ((0, 0),))):
            try:
                told = call(tables, *handed)
            except NoughtError as error:
                self.refuses(type(error), desk, question, **vars(error))
                continue
            if question == "sets" and told is not None:
                told = len(told)
            self.says(desk, question, written(told))
        self.says(desk, "ranks", written([rank(table) for table in tables]))
        self.says(desk, "dets", written([determinant(table) for table in tables]))

    def test_refused_as_the_stages_refuse(self):
        desk = desk_of("put 1 2/3 4", "put 0 1/-1 0")
        for row in ("shown 2", "shown 999999999999", "along 2", "along 0 1 2", "along 0 0 9 0", "along" + " 0" * 201):
            self.refuses(NoWay, desk, row)
        for row in ("signs", "sets", "ways 0", "ways 60"):
            self.refuses(Below, desk, row, at=1)
        for row in ("rests 0", "rests 1", "rests 8", "rests 999999999999", "lost 1 1 1", "lost 8 1 1", "lost 0 0 0"):
            self.refuses(NoRest, desk, row)
        for row in ("lost 2 1", "lost 2 1 1 1", "lost 9 1", "lost 0 1 1 1", "column 1", "column 1 1 1",
                    "column 1 1 1 1 1"):
            self.refuses(NoRow, desk, row)
        three = desk_of("put 1 0 0/0 1 0/0 0 1")
        self.refuses(TooGreat, three, "rests 3", many=19683, most=3000)
        self.refuses(NoRest, three, "rests 8")
        self.says(three, "rests 2", "none")

    def test_ways_of_more_than_sixty_places(self):
        desk = desk_of("put 1 2/3 4")
        for many in (61, 62, 999999999999):
            self.refuses(TooGreat, desk, f"ways {many}", many=many, most=60)
        self.says(desk, "ways 60", " ".join(["0"] * 61))

    def test_they_change_nothing(self):
        desk = desk_of(RIGHT, SWAP, "put 1 2/3 4")
        told = [answer(desk, row) for row in QUESTIONS]
        self.assertEqual([answer(desk, row) for row in QUESTIONS[::-1]], told[::-1])
        self.assertEqual([answer(desk, row) for row in QUESTIONS], told)


def written(told):
    """By the words of 10.4."""
    if told is None or told == () or told == []:
        return "none"
    if told is True or told is False:
        return "yes" if told else "no"
    if isinstance(told, int):
        return str(told)
    if isinstance(told[0], tuple):
        return "/".join([written(row) for row in told])
    return " ".join([str(number) for number in told])


class TestNoRow(TestCase):

    def desks(self):
        return [Desk(), desk_of("put 1"), desk_of("put 1 2/3 4", "put -1 0/0 1"), desk_of(*["put 1 1/1 1"] * 4)]

    def test_what_is_no_text(self):
        for desk in self.desks():
            for thing in whatever():
                if not isinstance(thing, str):
                    self.refuses(NoRow, desk, thing)
            for thing in (["many"], ("many",), {"many": 1}, [], b"many", ["put", "1"]):
                self.refuses(NoRow, desk, thing)

    def test_other_words(self):
        for desk in self.desks():
            for row in ("", " ", "x", "Many", "MANY", "manys", "man", "puts 1", "Put 1", "put", "-1", "0", "1 2/3 4",
                        "/", "ok", "none", "first 0", "show 0", "undo", "power", "det", "rank", "1", "put\t1", "many\n",
                        "\nmany", "turn;", "~"):
                self.refuses(NoRow, desk, row)
        for thing in whatever():
            if isinstance(thing, str):
                self.refuses(NoRow, Desk(), thing)

    def test_other_numbers_of_words(self):
        for desk in self.desks():
            for word in ("turn", "back", "many", "ranks", "dets", "all", "left", "signs", "sets", "barred"):
                for behind in (" 0", " 1 2", " x", " "):
                    self.refuses(NoRow, desk, word + behind)
            for word in ("drop", "shown", "rests", "ways"):
                for behind in ("", " ", " 0 0", " 2 2 2", " 0 "):
                    self.refuses(NoRow, desk, word + behind)
            for behind in ("", " 0", " 0 1 1", " 0 1 ", " 0  1"):
                self.refuses(NoRow, desk, "power" + behind)
            for row in ("along", "along ", "lost", "lost 2", "lost 2 ", "lost ", "column", "column "):
                self.refuses(NoRow, desk, row)

    def test_two_blanks_and_blanks_at_the_ends(self):
        for desk in self.desks():
            for row in DEEDS + QUESTIONS + ["many", "along 0 0 0"]:
                self.refuses(NoRow, desk, " " + row)
                if not row.startswith("put"):
                    self.refuses(NoRow, desk, row + " ")
                    self.refuses(NoRow, desk, row.replace(" ", "  ", 1) if " " in row else row + "  ")
                    if row.count(" ") > 1:
                        self.refuses(NoRow, desk, "  ".join(row.rsplit(" ", 1)))

    def test_a_word_that_is_no_such_number(self):
        words = ["x", "-", "+0", "+1", "00", "01", "-0", "1.0", "0x1", "1234567890123", "0000000000000", "None", "K",
                 "~", "\u0661", "\u00b2", "1\n", "1_0"]
        for desk in self.desks():
            for word in words + ["-1", "-2"]:
                for row in ("drop {}", "shown {}", "along {}", "along 0 {}", "along {} 0", "rests {}", "ways {}",
                            "power {} 1", "power 0 {}", "power {} 7", "power 9 {}", "lost {} 1 1", "lost {} 1"):
                    self.refuses(NoRow, desk, row.format(word))
            for word in words:
                for row in ("lost 2 {}", "lost 2 1 {}", "lost 2 {} 1", "lost 9 {}", "column {}", "column 1 {}",
                            "column {} 1", "column 1 1 1 1 1 {}"):
                    self.refuses(NoRow, desk, row.format(word))
            self.refuses(NoRow, desk, "power 0 0")
            self.refuses(NoRow, desk, "power 9 0")

    def test_ahead_of_all_else(self):
        desk = Desk()
        for row in ("shown x", "shown", "along -1", "ways", "ways -1", "lost 2", "column x", "rests +2", "power 0 0"):
            self.refuses(NoRow, desk, row)
        for row in ("shown 0", "along 0", "ways 1", "lost 2 1", "column 1", "rests 2", "ways 61"):
            self.refuses(NoTables, desk, row, at=-1)


class TestTwoDesks(TestCase):

    def test_they_know_nothing_of_one_another(self):
        one, other = Desk(), Desk()
        self.says(one, "put 1", "ok")
        self.says(other, "many", "0")
        self.refuses(NoRow, other, "back")
        self.says(other, "put 1 2/3 4", "ok")
        self.says(one, "put 2", "ok")
        self.says(other, "turn", "ok")
        self.says(one, "shown 0", "1")
        self.says(other, "shown 0", "1 3/2 4")
        self.says(one, "back", "ok")
        self.says(other, "shown 0", "1 3/2 4")
        self.says(one, "many", "1")

    def test_the_deeds_that_stand_alone_count(self):
        draw = drawer(104)
        for often in range(40):
            desk, standing = Desk(), []
            for turn in range(30):
                row = draw.choice(["put " + table_shown(drawn(draw, 2, -2, 2)), "put 1", f"drop {draw.randint(0, 4)}",
                                   f"power {draw.randint(0, 3)} {draw.randint(0, 3)}", "turn", "back", "back",
                                   draw.choice(QUESTIONS), "x"])
                told = answer(desk, row)
                if told == "ok":
                    standing = standing[:-1] if row == "back" else standing + [row]
            self.assertEqual([answer(desk, row) for row in QUESTIONS],
                             [answer(desk_of(*standing), row) for row in QUESTIONS])
            self.assertEqual(state(desk), state(desk_of(*standing)))

    def test_deeds_by_the_words_of_the_document(self):
        draw = drawer(105)
        for often in range(40):
            desk, tables = Desk(), []
            for turn in range(20):
                tables = self.done(desk, tables, draw)
                self.assertEqual(desk.say("many"), str(len(tables)))
                for k, one in enumerate(tables):
                    self.says(desk, f"shown {k}", table_shown(one))

    def done(self, desk, tables, draw):
        """A drawn deed is done that is not refused; the tables behind it."""
        deed = draw.choice(["put", "put", "drop", "power", "turn"])
        if deed == "put" and len(tables) < 4:
            table = drawn(draw, 2, -2, 2)
            self.says(desk, "put " + table_shown(table), "ok")
            return tables + [table]
        if tables == []:
            return tables
        at = draw.randrange(len(tables))
        if deed == "drop":
            self.says(desk, f"drop {at}", "ok")
            return tables[:at] + tables[at + 1:]
        if deed == "power":
            often = draw.randint(1, 6)
            self.says(desk, f"power {at} {often}", "ok")
            return powered(tables, at, often)
        self.says(desk, "turn", "ok")
        return turned_all(tables)


if __name__ == "__main__":
    unittest.main()
