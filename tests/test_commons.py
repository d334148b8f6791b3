"""Point 14 and the interface of factorforge/commons.py."""

import random
import unittest

from cases import PolysCase
from factorforge.commons import common, shares
from factorforge.kinds import Rests
from reckoning import LONG, common_of, disguised, form, goes_into, lead_one, product_of, samples, some_numbers, sum_of

PRIMES = (2, 3, 5, 9973)


class TestCommon(PolysCase):
    def assert_common(self, prime, f, g, expected):
        """That common and shares tell the expected one, from either side, and that the shares are right."""
        for one, other in ((f, g), (g, f)):
            with self.subTest(prime=prime, f=one, g=other):
                self.assert_poly(common(Rests(prime), one, other), expected)
                self.assert_shares(prime, one, other, expected)

    def assert_shares(self, prime, f, g, expected):
        told = shares(Rests(prime), f, g)
        self.assertIs(told.__class__, tuple)
        self.assertEqual(len(told), 3)
        self.assert_poly(told[0], expected)
        for one in told[1:]:
            self.assert_in_form(prime, one)
        reckoned = sum_of(prime, product_of(prime, told[1], f), product_of(prime, told[2], g))
        self.assertEqual(reckoned, expected)

    def test_written_out(self):
        self.assert_common(5, [-1, 0, 1], [1, 2, 1], [1, 1])
        self.assert_common(2, [1, 0, 1], [1, 1], [1, 1])
        self.assert_common(3, [2, 0, 2], [1, 1], [1])
        self.assert_common(9973, [-6, 3], [4, -4, 1], [9971, 1])
        self.assert_common(5, [1, 0, 1], [3, 1], [3, 1])

    def test_nought(self):
        for prime in PRIMES:
            for nought in ([], [0], [0, 0, 0], [prime], [prime, -prime, LONG * prime]):
                self.assert_common(prime, nought, [], [])
                self.assert_common(prime, nought, [prime, 0], [])
                self.assert_common(prime, nought, [1], [1])
                self.assert_common(prime, nought, [-1, prime], [1])
                self.assert_common(prime, nought, [3, 1], form(prime, [3, 1]))
                self.assert_common(prime, nought, [0, 0, -1], [0, 0, 1])

    def test_numbers(self):
        for prime in PRIMES:
            for number in (1, -1, prime + 1, prime - 1, 1 - LONG * prime):
                self.assert_common(prime, [number], [number], [1])
                self.assert_common(prime, [number], [3, 4, 1], [1])
                self.assert_common(prime, [number, prime], [0, 0, 0, 1], [1])

    def test_one_going_into_the_other(self):
        source = random.Random(31)
        for prime in PRIMES:
            for trial in range(30):
                g = [source.randrange(prime) for k in range(source.randrange(0, 6))] + [1]
                lead = source.randrange(1, prime)
                f = product_of(prime, g, [source.randrange(prime) for k in range(4)] + [lead])
                self.assert_common(prime, disguised(source, prime, f), disguised(source, prime, g), g)
                self.assert_common(prime, f, f, form(prime, [number * pow(lead, -1, prime) for number in f]))

    def test_nothing_in_common(self):
        for prime in PRIMES:
            self.assert_common(prime, [0, 0, 0, 1], [1, 0, 1], [1])
            self.assert_common(prime, [0, 1], [1, 1], [1])
            self.assert_common(prime, [0] * 40 + [1], [1] + [0] * 39 + [1], [1])

    def test_all_small_ones(self):
        for prime, most in ((2, 3), (3, 2)):
            ones = [g for degree in range(most + 1) for g in lead_one(prime, degree)]
            for f in ones:
                for g in ones:
                    fitting = [d for d in ones if goes_into(prime, d, f) and goes_into(prime, d, g)]
                    best = [d for d in fitting if len(d) == max(map(len, fitting))]
                    self.assertEqual(len(best), 1)
                    self.assert_common(prime, f, g, best[0])

    def test_known_common_ones(self):
        source = random.Random(32)
        for prime in PRIMES:
            for trial in range(40):
                d = [source.randrange(prime) for k in range(source.randrange(0, 7))] + [1]
                f = product_of(prime, d, [source.randrange(prime) for k in range(source.randrange(0, 7))] + [1])
                g = product_of(prime, d, [source.randrange(prime) for k in range(source.randrange(0, 7))] + [-1])
                expected = common_of(prime, f, g)
                self.assertTrue(goes_into(prime, d, expected))
                self.assertTrue(goes_into(prime, expected, f) and goes_into(prime, expected, g))
                self.assert_common(prime, disguised(source, prime, f), disguised(source, prime, g), expected)

    def test_leads_other_than_one(self):
        source = random.Random(33)
        for prime in (3, 5, 9973):
            for trial in range(30):
                d = product_of(prime, [source.randrange(prime), 1], [source.randrange(prime), 0, 1])
                f = product_of(prime, d, [prime - 1])
                g = product_of(prime, d, [1, 2])
                self.assert_common(prime, f, g, d)

    def test_numbers_of_any_size(self):
        source = random.Random(34)
        for prime in PRIMES:
            for f in samples(source, prime, 12):
                for g in samples(source, prime, 6):
                    self.assert_common(prime, f, g, common_of(prime, f, g))

    def test_eighty_numbers(self):
        source = random.Random(35)
        for prime in PRIMES:
            f, g = some_numbers(source, prime, 80), some_numbers(source, prime, 80)
            self.assert_common(prime, f, g, common_of(prime, f, g))
            d = some_numbers(source, prime, 40)
            f, g = product_of(prime, d, f[:40]), product_of(prime, d, g[:39])
            self.assert_common(prime, f, g, common_of(prime, f, g))


if __name__ == "__main__":
    unittest.main()
