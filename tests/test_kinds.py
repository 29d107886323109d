"""[20] kinds."""
import unittest

from askless.kinds import is_integer, is_mark, is_name, is_number
from tests.values import odd_values


class KindsTest(unittest.TestCase):
    def test_integers(self):
        for thing in [0, 1, -1, 10 ** 39, -(10 ** 39)]:
            self.assertIs(is_integer(thing), True)
        for thing in [True, False, None, "1", (1,), [1], b"1", {1: 1}]:
            self.assertIs(is_integer(thing), False)

    def test_names(self):
        for thing in ["a", "z", "abcdefgh", "zzzzzzzz", "ask"]:
            self.assertIs(is_name(thing), True)
        for thing in ["", "abcdefghi", "A", "a1", "a b", "a\n", "\u00e9", "\uff41", "?", "-", b"a", ("a",), ["a"], 1, None]:
            self.assertIs(is_name(thing), False)

    def test_marks(self):
        for thing in [0, 1, 2, 3]:
            self.assertIs(is_mark(thing), True)
        for thing in [-1, 4, 10 ** 39, True, False, "0", None, (0,)]:
            self.assertIs(is_mark(thing), False)

    def test_numbers(self):
        self.assertEqual([is_number(3, thing) for thing in range(-1, 5)], [False, True, True, True, False, False])
        self.assertIs(is_number(0, 0), False)
        self.assertIs(is_number(10 ** 39, 10 ** 39 - 1), True)
        self.assertIs(is_number(10 ** 39, 10 ** 39), False)
        for thing in [True, False, "0", None, [0], (0,)]:
            self.assertIs(is_number(2, thing), False)

    def test_any_value(self):
        for thing in odd_values():
            self.assertIs(is_name(thing), False)
            self.assertIs(is_mark(thing), False)
            self.assertIs(is_number(10 ** 38, thing), False)
            self.assertIs(is_integer(thing), type(thing) is int)
