import unittest

from rowsinplace.checks import is_integer, is_name
from odd_objects import BIG, NO_INTEGERS, NO_NAMES


class Checks(unittest.TestCase):
    def test_integers(self):
        for thing in (0, 1, -1, BIG, -BIG):
            self.assertIs(is_integer(thing), True)

    def test_no_integers(self):
        for thing in NO_INTEGERS:
            self.assertIs(is_integer(thing), False, thing)

    def test_names(self):
        for thing in ("a", "z", "abcdefgh", "home", "zzzzzzzz"):
            self.assertIs(is_name(thing), True)

    def test_no_names(self):
        for thing in NO_NAMES:
            self.assertIs(is_name(thing), False, thing)
