"""The refusals of newnames.errors: their places, and their fields."""

import unittest

from newnames import errors
from newnames.errors import Held, LetGo, Missing, NewError, NoName, NoRow, NoSpare, Twice

KINDS = (NoName, Twice, Missing, Held, LetGo, NoSpare, NoRow)


class Errors(unittest.TestCase):

    def test_any_refusal_is_right_under_value_error(self):
        self.assertEqual(NewError.__bases__, (ValueError,))

    def test_each_stands_right_under_new_error(self):
        for kind in KINDS:
            self.assertEqual(kind.__bases__, (NewError,), kind)

    def test_each_is_defined_in_its_file(self):
        for kind in (NewError, *KINDS):
            self.assertEqual(kind.__module__, "newnames.errors")
            self.assertIs(getattr(errors, kind.__name__), kind)

    def test_no_name_is_made_of_one_text(self):
        self.assertEqual(str(NoName("A is no name")), "A is no name")

    def test_a_name_is_a_field(self):
        for kind in (Twice, Missing, Held, LetGo):
            self.assertEqual(kind("pear").name, "pear", kind)

    def test_a_ring_is_a_field(self):
        self.assertEqual(NoSpare(("a", "b")).ring, ("a", "b"))

    def test_a_row_is_a_field(self):
        self.assertEqual(NoRow(0).row, 0)
        self.assertEqual(NoRow(7).row, 7)

    def test_each_can_be_raised_and_tells_something(self):
        made = (NoName("A is no name"), Twice("a"), Missing("a"), Held("a"), LetGo("a"),
                NoSpare(("a", "b")), NoRow(3))
        for error in made:
            with self.assertRaises(ValueError) as caught:
                raise error
            self.assertIs(caught.exception, error)
            self.assertNotEqual(str(error), "")


if __name__ == "__main__":
    unittest.main()
