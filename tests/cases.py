"""What several test files ask of what is told."""

import unittest

from reckoning import form


class PolysCase(unittest.TestCase):
    def assert_poly(self, told, expected):
        self.assertIs(told.__class__, list)
        self.assertEqual(told, expected)
        for number in told:
            self.assertIs(number.__class__, int)

    def assert_pair(self, told, first, second):
        self.assertIs(told.__class__, tuple)
        self.assertEqual(len(told), 2)
        self.assert_poly(told[0], first)
        self.assert_poly(told[1], second)

    def assert_in_form(self, size, told):
        """That what is told is a polynomial in form, with its numbers brought to the kind."""
        self.assert_poly(told, form(size, told))

    def assert_pairs(self, size, told):
        """That what is told is a list of tuples of a polynomial and a whole number above nought."""
        self.assertIs(told.__class__, list)
        for pair in told:
            self.assertIs(pair.__class__, tuple)
            self.assertEqual(len(pair), 2)
            self.assert_in_form(size, pair[0])
            self.assertIs(pair[1].__class__, int)
            self.assertGreater(pair[1], 0)
