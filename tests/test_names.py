"""Point 4: what a name is."""

import unittest

from newnames import plans
from newnames.plans import Plan, is_name

LETTERS = "abcdefghijklmnopqrstuvwxyz"


class Names(unittest.TestCase):

    def assert_name(self, thing):
        self.assertIs(is_name(thing), True, repr(thing))

    def assert_no_name(self, thing):
        self.assertIs(is_name(thing), False, repr(thing))

    def test_it_is_defined_in_its_file(self):
        self.assertEqual(plans.is_name.__module__, "newnames.plans")

    def test_each_length(self):
        self.assert_no_name("")
        for many in range(1, 9):
            self.assert_name("a" * many)
            self.assert_name(LETTERS[-many:])
        for many in (9, 10, 26, 1000):
            self.assert_no_name("a" * many)

    def test_each_sign_alone(self):
        signs = [chr(number) for number in range(32, 127)] + ["\t", "\n", "\r"]
        for sign in signs:
            self.assertIs(is_name(sign), sign in LETTERS, repr(sign))

    def test_each_sign_in_each_place(self):
        signs = [chr(number) for number in range(32, 127)] + ["\t", "\n", "\r"]
        for sign in signs:
            for text in (sign + "ab", "a" + sign + "b", "ab" + sign):
                self.assertIs(is_name(text), sign in LETTERS, repr(text))

    def test_letters_beyond_a_to_z(self):
        for text in ("\u00e4", "a\u00e9", "\u00df", "\u03b1", "\uff41"):
            self.assert_no_name(text)

    def test_things_that_are_no_text(self):
        things = [None, True, False, 0, 1, -1, 1.5, b"a", b"", (), ("a",), ("a", "b"), [], ["a"],
                  {}, {"a": "b"}, {"a"}, frozenset("a"), range(3), object(), str, is_name,
                  Plan([]), bytearray(b"a"), ValueError("a")]
        for thing in things:
            self.assert_no_name(thing)

    def test_a_thing_handed_in_stays_as_it_is(self):
        things = ["a"]
        is_name(things)
        self.assertEqual(things, ["a"])


if __name__ == "__main__":
    unittest.main()
