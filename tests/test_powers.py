"""Points 16 and 17 and the interface of factorforge/powers.py."""

import random
import unittest

from cases import PolysCase
from factorforge.kinds import Rests
from factorforge.powers import powering, raised
from reckoning import LONG, disguised, form, product_of, raised_of, rest_of, some_numbers

PRIMES = (2, 3, 7, 9973)


def some_divisor(source, prime, degree, lead=None):
    return [source.randrange(prime) for k in range(degree)] + [lead or source.randrange(1, prime)]


class TestRaised(PolysCase):
    def assert_raised(self, prime, f, many, g, expected):
        with self.subTest(prime=prime, f=f, many=many, g=g):
            told = raised(Rests(prime), f, many, g)
            self.assert_poly(told, expected)
            self.assertLess(len(told), len(form(prime, g)))

    def test_written_out(self):
        self.assert_raised(5, [0, 1], 2, [1, 0, 1], [4])
        self.assert_raised(5, [0, 1], 3, [1, 0, 1], [0, 4])
        self.assert_raised(3, [1, 1], 3, [1, 0, 2], [1, 1])
        self.assert_raised(7, [3], 10000, [0, 1], [pow(3, 10000, 7)])

    def test_none_of_them_is_one(self):
        for prime in PRIMES:
            for g in ([0, 1], [1, 1], [3, 1, 0, 1], [5, prime - 1]):
                for f in ([], [0, 0], [1], [0, 1], [prime], [1, 2, 3, 4, 5, 6], g):
                    self.assert_raised(prime, f, 0, g, [1])

    def test_nought(self):
        for prime in PRIMES:
            for f in ([], [0], [prime, -prime, 0], [0, 0, 0, 0, 0]):
                for many in (1, 2, 3, prime, 10000):
                    self.assert_raised(prime, f, many, [1, 1, 1], [])

    def test_once_is_the_rest(self):
        source = random.Random(51)
        for prime in PRIMES:
            for degree in range(1, 9):
                g = some_divisor(source, prime, degree)
                for f in (some_numbers(source, prime, 3), some_numbers(source, prime, 20), g, product_of(prime, g, g)):
                    self.assert_raised(prime, f, 1, g, rest_of(prime, f, g))

    def test_each_small_many(self):
        source = random.Random(52)
        for prime in PRIMES:
            for trial in range(6):
                g = some_divisor(source, prime, source.randrange(1, 8))
                f = some_numbers(source, prime, source.randrange(1, 14))
                expected = [1]
                for many in range(40):
                    self.assert_raised(prime, disguised(source, prime, f), many, disguised(source, prime, g), expected)
                    expected = rest_of(prime, product_of(prime, expected, f), g)

    def test_ten_thousand(self):
        source = random.Random(53)
        for prime in PRIMES:
            g, f = some_divisor(source, prime, 3), some_numbers(source, prime, 4)
            expected = [1]
            for step in range(10000):
                expected = rest_of(prime, product_of(prime, expected, f), g)
            self.assert_raised(prime, f, 10000, g, expected)

    def test_the_prime(self):
        source = random.Random(54)
        for prime in PRIMES:
            for degree in (1, 2, 5, 12):
                g = some_divisor(source, prime, degree)
                f = some_numbers(source, prime, degree + 2)
                # What is taken as often as the prime says has its numbers at the powers times the prime.
                spread = [raised_of(prime, [0, 1], prime * at, g) for at in range(len(f))]
                terms = [[number * one for one in row] for number, row in zip(f, spread)]
                expected = form(prime, [sum(row[k] for row in terms if k < len(row)) for k in range(degree)])
                self.assert_raised(prime, f, prime, g, expected)

    def test_long_polynomials(self):
        source = random.Random(55)
        for prime in PRIMES:
            f, g = some_numbers(source, prime, 80), some_divisor(source, prime, 79)
            for many in (2, 3, 10000):
                self.assert_raised(prime, f, many, g, raised_of(prime, f, many, g))

    def test_leads_other_than_one(self):
        for prime in (3, 7, 9973):
            for lead in (2, prime - 1, prime + 2, 2 - LONG * prime):
                g = [1, 3, lead]
                for many in (1, 2, 7, 9999):
                    self.assert_raised(prime, [5, 1], many, g, raised_of(prime, [5, 1], many, g))


class TestPowering(PolysCase):
    def assert_powering(self, prime, g):
        with self.subTest(prime=prime, g=g):
            degree = len(form(prime, g)) - 1
            told = powering(Rests(prime), g)
            self.assertIs(told.__class__, list)
            self.assertEqual(len(told), degree)
            for at, row in enumerate(told):
                self.assertEqual(len(row), degree)
                rest = raised_of(prime, [0, 1], prime * at, g)
                self.assert_poly(row, rest + [0] * (degree - len(rest)))

    def test_written_out(self):
        self.assertEqual(powering(Rests(2), [1, 1, 1]), [[1, 0], [1, 1]])
        self.assertEqual(powering(Rests(5), [1, 0, 1]), [[1, 0], [0, 1]])
        self.assertEqual(powering(Rests(3), [1, 0, 1]), [[1, 0], [0, 2]])
        self.assertEqual(powering(Rests(3), [0, 0, 1]), [[1, 0], [0, 0]])
        self.assertEqual(powering(Rests(9973), [4, 1]), [[1]])
        self.assertEqual(powering(Rests(2), [0, 3, 2]), [[1]])

    def test_each_degree(self):
        source = random.Random(56)
        for prime in (2, 3, 9973):
            for degree in range(1, 13):
                self.assert_powering(prime, some_divisor(source, prime, degree, 1))
                self.assert_powering(prime, disguised(source, prime, some_divisor(source, prime, degree)))

    def test_special_ones(self):
        for prime in (2, 3, 5, 9973):
            for degree in (1, 2, 7, 12):
                self.assert_powering(prime, [0] * degree + [1])
                self.assert_powering(prime, [-1] + [0] * (degree - 1) + [1])


if __name__ == "__main__":
    unittest.main()
