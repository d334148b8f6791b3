"""Point 15 and the interface of factorforge/squares.py."""

import random
import unittest

from cases import PolysCase
from factorforge.errors import Nought
from factorforge.kinds import Rests
from factorforge.squares import free_parts
from reckoning import LONG, common_of, disguised, form, goes_into, lead_one, product_of_all, product_of_pairs, slope_of
from reckoning import without_parts

PRIMES = (2, 3, 5, 9973)


def gathered(prime, powers):
    """The pairs that are to be told where powers is a list of (polynomial without parts, how often), all unlike."""
    return [(product_of_all(prime, [g for g, often in powers if often == e]), e)
            for e in sorted({often for g, often in powers})]


class TestFreeParts(PolysCase):
    def assert_parts(self, prime, f, expected):
        with self.subTest(prime=prime, f=f):
            told = free_parts(Rests(prime), f)
            self.assert_pairs(prime, told)
            self.assertEqual(told, expected)

    def assert_promised(self, prime, f):
        """What point 15 says of the answer, each by reckoning it."""
        with self.subTest(prime=prime, f=f):
            told = free_parts(Rests(prime), f)
            self.assert_pairs(prime, told)
            self.assertEqual([e for g, e in told], sorted({e for g, e in told}))
            self.assertEqual(product_of_pairs(prime, form(prime, f)[-1], told), form(prime, f))
            for at, (g, e) in enumerate(told):
                self.assertGreater(len(g), 1)
                self.assertEqual(g[-1], 1)
                self.assertEqual(common_of(prime, g, slope_of(prime, g)), [1])
                for other, often in told[:at]:
                    self.assertEqual(common_of(prime, g, other), [1])

    def test_written_out(self):
        self.assert_parts(5, [1, 2, 1], [([1, 1], 2)])
        self.assert_parts(5, [-1, 0, 1], [([4, 0, 1], 1)])
        self.assert_parts(2, [0, 0, 1, 1], [([1, 1], 1), ([0, 1], 2)])
        self.assert_parts(3, [0, 0, 0, 2], [([0, 1], 3)])
        self.assert_parts(7, [0, 3], [([0, 1], 1)])

    def test_without_x(self):
        for prime in PRIMES:
            for number in (1, -1, prime + 1, 1 - LONG * prime):
                self.assert_parts(prime, [number], [])
                self.assert_parts(prime, [number, prime, 0, -prime], [])

    def test_nought(self):
        for prime in PRIMES:
            for f in ([], [0], [0, 0], [prime], [-prime, 2 * prime, 0]):
                with self.subTest(prime=prime, f=f), self.assertRaises(Nought):
                    free_parts(Rests(prime), f)

    def test_free_of_squares(self):
        for prime in PRIMES:
            self.assert_parts(prime, [0, 1, 1], [([0, 1, 1], 1)])
            self.assert_parts(prime, [1, 1], [([1, 1], 1)])

    def test_each_power_of_one(self):
        for prime in PRIMES:
            for g in without_parts(prime, 2)[:2] + [[1, 1]] if prime < 9 else [[5, 1], [1, 1], [9972, 1]]:
                for e in range(1, 27):
                    self.assert_parts(prime, product_of_pairs(prime, 1, [(g, e)]), [(g, e)])

    def test_the_slope_is_nought(self):
        self.assert_parts(2, [1, 0, 1], [([1, 1], 2)])
        self.assert_parts(2, [1, 0, 0, 0, 1], [([1, 1], 4)])
        self.assert_parts(3, [1, 0, 0, 1], [([1, 1], 3)])
        self.assert_parts(3, [-1] + [0] * 8 + [1], [([2, 1], 9)])
        self.assert_parts(5, [0, 0, 0, 0, 0, 2] + [0] * 19 + [2], [([0, 1, 0, 0, 0, 1], 5)])
        self.assert_parts(2, [1, 0, 1, 0, 1], [([1, 1, 1], 2)])

    def test_multiples_of_the_prime_among_others(self):
        for prime, often in ((2, (1, 2, 3, 4)), (2, (2, 4, 6, 8)), (2, (8, 1, 16, 5)), (3, (1, 3, 6, 9)),
                             (3, (3, 4, 2, 12)), (5, (5, 1, 10, 6)), (5, (4, 5, 25, 1)), (2, (2, 2, 3, 3))):
            pieces = without_parts(prime, 1)[:2] + without_parts(prime, 2)[:1] + without_parts(prime, 3)[:1]
            powers = list(zip(pieces, often))
            self.assert_parts(prime, product_of_pairs(prime, 1, powers), gathered(prime, powers))

    def test_several_of_one_e_are_one_product(self):
        for prime in (3, 5, 9973):
            powers = [([0, 1], 2), ([1, 1], 2), ([2, 1], 1)]
            self.assert_parts(prime, product_of_pairs(prime, 1, powers), gathered(prime, powers))

    def test_leads_other_than_one(self):
        for prime in (3, 5, 9973):
            for lead in (2, prime - 1, prime + 2, -1, 2 - LONG * prime):
                powers = [([1, 1], 3), ([2, 1], 1)]
                self.assert_parts(prime, product_of_pairs(prime, lead, powers), gathered(prime, powers))

    def test_all_small_ones(self):
        for prime, most in ((2, 6), (3, 4), (5, 3)):
            pieces = [g for degree in range(1, most + 1) for g in without_parts(prime, degree)]
            for f in [f for degree in range(most + 1) for f in lead_one(prime, degree)]:
                powers = []
                for g in pieces:
                    e = 0
                    while goes_into(prime, product_of_pairs(prime, 1, [(g, e + 1)]), f):
                        e += 1
                    if e > 0:
                        powers.append((g, e))
                self.assert_parts(prime, f, gathered(prime, powers))

    def test_products_of_many(self):
        source = random.Random(41)
        for prime in PRIMES:
            for trial in range(25):
                f = form(prime, [source.randrange(1, prime)])
                while len(f) < 60:
                    g = [source.randrange(prime) for k in range(source.randrange(1, 4))] + [1]
                    f = product_of_pairs(prime, 1, [(f, 1), (g, source.choice([1, 1, 2, 3, 4, 5, 6]))])
                self.assert_promised(prime, disguised(source, prime, f))

    def test_eighty_numbers(self):
        for prime in PRIMES:
            powers = [([0, 1], 40), ([1, 1], 39)]
            self.assert_parts(prime, product_of_pairs(prime, 1, powers), [([1, 1], 39), ([0, 1], 40)])
            self.assert_parts(prime, product_of_pairs(prime, 1, [([1, 1], 79)]), [([1, 1], 79)])


if __name__ == "__main__":
    unittest.main()
