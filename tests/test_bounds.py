"""Point 29 and the interface of factorforge/bounds.py."""

import random
import unittest
from math import prod

from factorforge.bounds import bound, good_prime, many_for
from reckoning import LONG, bare_of, common_of, form, product_of_all, slope_of, whole_common_of

PRIMES = [number for number in range(2, 9974) if all(number % low for low in range(2, int(number ** 0.5) + 1))]


def fits(prime, g):
    return g[-1] % prime != 0 and common_of(prime, g, slope_of(prime, g)) == [1]


class TestBound(unittest.TestCase):
    def assert_bound(self, g, expected):
        with self.subTest(g=g):
            self.assertIs(bound(g).__class__, int)
            self.assertEqual(bound(g), expected)

    def test_by_hand(self):
        self.assert_bound([1, 1], 4)
        self.assert_bound([1, 2, 3], 24)
        self.assert_bound([0, 0, 0, 1], 8)
        self.assert_bound([5, 0, 0, 0, 0, 0, 0, 0, 0, 0, 0, 0, 2], 7 * 4096)

    def test_degree_nought(self):
        for number in (1, 7, -7, LONG, -LONG):
            self.assert_bound([number], abs(number))
            self.assert_bound([number, 0, 0], abs(number))

    def test_below_nought(self):
        self.assert_bound([-1, -1], 4)
        self.assert_bound([-1, 2, -3], 24)
        self.assert_bound([3, -3, 0, 0], 12)

    def test_long_numbers(self):
        f = [10 ** 99, -10 ** 99] * 12
        self.assert_bound(f, 24 * 10 ** 99 * 2 ** 23)


class TestManyFor(unittest.TestCase):
    def assert_many(self, prime, g, expected):
        with self.subTest(prime=prime, g=g):
            told = many_for(prime, g)
            self.assertIs(told.__class__, int)
            self.assertEqual(told, expected)

    def test_at_and_beside_the_bound(self):
        for many in range(1, 60):
            # Twice the bound is the power itself, which is not enough, or two less.
            self.assert_many(2, [2 ** many], many + 2)
            self.assert_many(2, [-2 ** (many + 1) + 1], many + 2)
            self.assert_many(2, [2 ** many + 1], many + 2)
            for prime in (3, 5, 9973):
                self.assert_many(prime, [(prime ** many - 1) // 2], many)
                self.assert_many(prime, [-(prime ** many + 1) // 2], many + 1)

    def test_from_one_on(self):
        self.assert_many(3, [1], 1)
        self.assert_many(9973, [1, 1], 1)
        self.assert_many(2, [1], 2)
        self.assert_many(9973, [4986], 1)
        self.assert_many(9973, [4987], 2)

    def test_the_least_one(self):
        source = random.Random(111)
        for trial in range(200):
            prime = source.choice(PRIMES)
            g = [source.randrange(-10 ** 60, 10 ** 60) for k in range(source.randrange(1, 14))] + [1]
            many = many_for(prime, g)
            self.assertGreater(prime ** many, 2 * bound(g))
            self.assertTrue(many == 1 or prime ** (many - 1) <= 2 * bound(g))


class TestGoodPrime(unittest.TestCase):
    def assert_prime(self, g, expected=None):
        with self.subTest(g=g):
            told = good_prime(g)
            self.assertIs(told.__class__, int)
            self.assertIn(told, PRIMES)
            self.assertTrue(fits(told, form(0, g)))
            self.assertFalse(any(fits(prime, form(0, g)) for prime in PRIMES if prime < told))
            if expected is not None:
                self.assertEqual(told, expected)

    def test_by_hand(self):
        self.assert_prime([1, 1], 2)
        self.assert_prime([0, 2], 3)
        self.assert_prime([0, 6], 5)
        self.assert_prime([1, 0, 1], 3)
        self.assert_prime([-1, 0, 1], 3)
        self.assert_prime([1, 1, 1], 2)
        self.assert_prime([1, 0, 0, 0, 1], 3)
        self.assert_prime([1, 0, -10, 0, 1], 5)
        self.assert_prime([1, 2, 0, 0], 3)

    def test_leads(self):
        for count in (1, 2, 5, 20, 30):
            lead = prod(PRIMES[:count])
            self.assert_prime([1, lead], PRIMES[count])
            self.assert_prime([1, 1, lead])
        self.assert_prime([1, prod(PRIMES[1:20])], 2)

    def test_differences(self):
        # By each prime that goes into a difference of two roots the two are the same.
        for count in (1, 2, 5, 20):
            apart = prod(PRIMES[:count])
            self.assert_prime(product_of_all(0, [[0, 1], [-apart, 1]]), PRIMES[count])
        self.assert_prime(product_of_all(0, [[number, 1] for number in range(12)]), 13)
        self.assert_prime(product_of_all(0, [[30 * number, 1] for number in range(-6, 6)]), 13)

    def test_leads_and_differences(self):
        self.assert_prime(product_of_all(0, [[1, 6], [1 + 35, 6]]), 11)
        self.assert_prime(product_of_all(0, [[1, prod(PRIMES[:10])], [prod(PRIMES[10:15]) + 1, prod(PRIMES[:10])]]))

    def test_many(self):
        source = random.Random(112)
        for trial in range(80):
            size = source.choice([3, 100, 10 ** 67])
            g = [source.randrange(-size, size) for k in range(source.randrange(1, 13))] + [source.randrange(1, size)]
            g = bare_of(g)[1]
            if len(whole_common_of(g, slope_of(0, g))) == 1:
                self.assert_prime(g)


if __name__ == "__main__":
    unittest.main()
