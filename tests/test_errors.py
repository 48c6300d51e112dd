"""0.4: the classes of the refusals."""

import unittest

from noughtways import errors
from noughtways.errors import Below, NoLine, NoRest, NoRow, NoSet, NoTable, NoTables, NoText, NoughtError, NoWay
from noughtways.errors import TooGreat

PLAIN = (NoTable, NoWay, NoSet, NoRest, NoLine, NoRow)
WITH_AT = (NoTables, Below, NoText)


class TestErrors(unittest.TestCase):

    def test_nought_error_stands_straight_under_value_error(self):
        self.assertEqual(NoughtError.__bases__, (ValueError,))

    def test_each_other_stands_straight_under_nought_error(self):
        for kind in PLAIN + WITH_AT + (TooGreat,):
            self.assertEqual(kind.__bases__, (NoughtError,), kind)

    def test_there_are_ten_unlike_ones_under_their_names(self):
        kinds = PLAIN + WITH_AT + (TooGreat,)
        self.assertEqual(len(set(kinds)), 10)
        for kind in kinds + (NoughtError,):
            self.assertIs(getattr(errors, kind.__name__), kind)

    def test_plain_ones_are_made_of_nothing(self):
        for kind in PLAIN + (NoughtError,):
            with self.assertRaises(NoughtError):
                raise kind()

    def test_at_is_what_was_handed_in(self):
        for kind in WITH_AT:
            for at in (-1, 0, 3):
                self.assertEqual(kind(at).at, at)
            with self.assertRaises(TypeError):
                kind()

    def test_many_and_most_are_what_was_handed_in_in_this_order(self):
        error = TooGreat(5, 4)
        self.assertEqual((error.many, error.most), (5, 4))
        with self.assertRaises(TypeError):
            TooGreat(5)

    def test_fields_are_each_objects_own(self):
        one, other = NoTables(1), NoTables(2)
        self.assertEqual((one.at, other.at), (1, 2))
        for kind in WITH_AT:
            self.assertFalse(hasattr(kind, "at"))
        self.assertFalse(hasattr(TooGreat, "many") or hasattr(TooGreat, "most"))

    def test_they_can_be_taken_as_value_errors_and_written_out(self):
        for error in (NoWay("a word"), NoTables(2), Below(0), NoText(1), TooGreat(13, 12)):
            with self.assertRaises(ValueError) as taken:
                raise error
            self.assertIs(taken.exception, error)
            self.assertIsInstance(str(error), str)


if __name__ == "__main__":
    unittest.main()
