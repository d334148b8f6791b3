"""Point 26 and the interface of factorforge/lifting.py."""

import random
import unittest

from cases import PolysCase
from factorforge.errors import BadLift, NoPower, NoPrime
from factorforge.lifting import lifted
from reckoning import LONG, disguised, form, product_of, product_of_all, sum_of, without_parts

MANY = (1, 2, 3, 4, 5, 31, 400)


def pieces_for(prime):
    if prime > 100:
        return [[number * number, 1] for number in range(12)]
    return [g for degree in range(1, 4) for g in without_parts(prime, degree)]


def chosen(source, prime, count):
    """Up to count pieces, sometimes two in one, whose degrees add up to at most twelve."""
    found = []
    for g in source.sample(pieces_for(prime), len(pieces_for(prime))):
        if len(found) < count and sum(len(one) - 1 for one in found + [g]) <= 12:
            found.append(g)
    if len(found) > 2 and source.random() < 0.3:
        found = [product_of(prime, found[0], found[1])] + found[2:]
    return found


def some_f(source, prime, pieces, lead):
    """A polynomial over the whole numbers that is lead times the product of the pieces by the prime."""
    product = product_of_all(0, pieces, lead)
    more = [prime * source.choice([0, 1, -1, 5, LONG, -LONG]) for k in range(len(product) - 1)]
    return sum_of(0, product, more)


class TestLifted(PolysCase):
    def assert_lifted(self, prime, many, f, pieces):
        with self.subTest(prime=prime, many=many, f=f, pieces=pieces):
            size = prime ** many
            told = lifted(prime, many, f, pieces)
            self.assertIs(told.__class__, list)
            self.assertEqual(len(told), len(pieces))
            for up, piece in zip(told, pieces):
                self.assert_in_form(size, up)
                self.assertEqual(up[-1], 1)
                self.assertEqual(form(prime, up), form(prime, piece))
            self.assertEqual(product_of_all(size, told, form(0, f)[-1]), form(size, f))

    def test_written_out(self):
        self.assertEqual(lifted(5, 2, [1, 0, 1], [[2, 1], [3, 1]]), [[7, 1], [18, 1]])
        self.assertEqual(lifted(5, 2, [1, 0, 1], [[3, 1], [2, 1]]), [[18, 1], [7, 1]])
        self.assertEqual(lifted(3, 3, [-1, 0, 1], [[1, 1], [2, 1]]), [[1, 1], [26, 1]])
        self.assertEqual(lifted(7, 1, [3, 0, 3], [[1, 0, 1]]), [[1, 0, 1]])
        self.assertEqual(lifted(3, 2, [3, 2], [[0, 1]]), [[6, 1]])

    def test_one_piece(self):
        source = random.Random(91)
        for prime in (2, 3, 9973):
            for many in MANY:
                piece = [source.randrange(prime) for k in range(source.randrange(1, 13))] + [1]
                for lead in (1, -1, prime + 1, 1 - prime * LONG):
                    self.assert_lifted(prime, many, some_f(source, prime, [piece], lead), [piece])

    def test_several_pieces(self):
        source = random.Random(92)
        for prime in (2, 3, 5, 9973):
            for many in MANY:
                for count in (2, 3, 5, 8, 12):
                    pieces = chosen(source, prime, count)
                    lead = source.choice([1, -1, prime - 1, prime + 1, prime * LONG + 1, -prime * LONG - 1])
                    f = some_f(source, prime, pieces, lead)
                    self.assert_lifted(prime, many, f + [0] * source.randrange(3),
                                       [disguised(source, prime, piece) for piece in pieces])

    def test_each_many(self):
        source = random.Random(93)
        pieces = [[1, 1], [0, 1], [1, 1, 1]]
        f = some_f(source, 2, pieces, 3)
        for many in range(1, 70):
            self.assert_lifted(2, many, f, pieces)

    def test_twelve_pieces(self):
        source = random.Random(94)
        for prime in (13, 9973):
            pieces = [[number, 1] for number in range(12)]
            for many in (1, 2, 60, 400):
                self.assert_lifted(prime, many, some_f(source, prime, pieces, 5), pieces)

    def test_long_numbers(self):
        pieces = [[1, 1], [2, 1], [1, 0, 1]]
        f = [number + 3 * 10 ** 2000 for number in product_of_all(0, pieces, 2)]
        f[-1] = 2
        self.assert_lifted(3, 400, f, pieces)


class TestRefused(PolysCase):
    def assert_refused(self, refusal, prime, many, f, pieces):
        with self.subTest(prime=prime, many=many, f=f, pieces=pieces), self.assertRaises(refusal):
            lifted(prime, many, f, pieces)

    def test_no_prime(self):
        for prime in (-3, 0, 1, 4, 9, 9971, 10007, LONG):
            for many in (0, 1, 2, 401):
                self.assert_refused(NoPrime, prime, many, [1, 1], [[1, 1]])
                self.assert_refused(NoPrime, prime, many, [], [[0]])

    def test_no_power(self):
        for prime in (2, 3, 9973):
            for many in (0, -1, 401, 1000, LONG):
                self.assert_refused(NoPower, prime, many, [1, 1], [[1, 1]])
                self.assert_refused(NoPower, prime, many, [], [[0]])
                self.assert_refused(NoPower, prime, many, [1, prime], [[1, 2]])

    def assert_bad(self, prime, f, pieces):
        for many in (1, 2, 400):
            self.assert_refused(BadLift, prime, many, f, pieces)

    def test_the_lead(self):
        self.assert_bad(3, [1, 1, 3], [[1, 1]])
        self.assert_bad(3, [1, 1, 0, -6], [[1, 1]])
        self.assert_bad(2, [1, 1, 2, 0, 0], [[1, 1]])
        self.assert_bad(5, [1, 5], [[1, 1]])
        self.assert_bad(9973, [2, 1, LONG * 9973], [[2, 1]])
        # Over Rests f is nought here, and so is its lead times whatever pieces.
        self.assert_bad(3, [3, 3], [[1, 1]])
        self.assert_bad(3, [0, -9, 6], [[1, 1], [0, 1]])

    def test_nought(self):
        for f in ([], [0], [0, 0, 0]):
            self.assert_bad(3, f, [[1, 1]])
            self.assert_bad(2, f, [[0, 1], [1, 1]])

    def test_another_lead(self):
        self.assert_bad(5, [2, 2], [[2, 2]])
        self.assert_bad(5, [2, 2], [[1, 2]])
        self.assert_bad(5, [1, 2], [[1, 2]])
        self.assert_bad(5, [1, 0, -1], [[1, 1], [1, -1]])
        # Leads that cancel out in the product.
        self.assert_bad(5, [1, 0, 1], [[1, 3], [1, 2]])
        self.assert_bad(7, product_of_all(0, [[1, 2], [1, 4], [5, 1]]), [[1, 2], [1, 4], [5, 1]])
        self.assert_bad(5, [1, 4], [[4, 1, 5, 2]])

    def test_degree_nought(self):
        self.assert_bad(5, [1, 1], [[1], [1, 1]])
        self.assert_bad(5, [1, 1], [[1, 1], [1]])
        self.assert_bad(5, [1, 1], [[1, 1], [6, 5, 0]])
        self.assert_bad(5, [2], [[1]])
        self.assert_bad(5, [1, 2], [[3, 1], [2]])

    def test_a_nought_piece(self):
        for nought in ([], [0], [5], [0, -5, 10]):
            self.assert_bad(5, [1, 1], [nought])
            self.assert_bad(5, [1, 1], [[1, 1], nought])
            self.assert_bad(5, [1, 1], [nought, [1, 1]])

    def test_something_in_common(self):
        self.assert_bad(5, [1, 2, 1], [[1, 1], [1, 1]])
        self.assert_bad(5, [1, 2, 1], [[1, 1], [6, -4]])
        self.assert_bad(5, product_of_all(0, [[1, 1], [2, 1], [1, 1], [3, 1]]), [[2, 3, 1], [3, 4, 1]])
        self.assert_bad(2, [0, 0, 1, 0, 1], [[0, 1], [1, 1], [0, 1, 1]])
        self.assert_bad(9973, [1, 2, 1], [[1, 1], [9974, 1]])
        self.assert_bad(7, product_of_all(0, [[0, 1], [1, 1], [2, 1], [0, 1]]), [[0, 1], [1, 1], [2, 1], [0, 1]])

    def test_another_product(self):
        self.assert_bad(5, [1, 0, 1], [[2, 1], [4, 1]])
        self.assert_bad(5, [1, 0, 1], [[2, 1]])
        self.assert_bad(5, [2, 1], [[2, 1], [3, 1]])
        self.assert_bad(5, [1, 0, 2], [[1, 0, 1]])
        self.assert_bad(5, [7], [[1, 1]])
        self.assert_bad(5, [1, 1], [[2, 1]])
        self.assert_bad(9973, [1, 9973, 1], [[2, 0, 1]])


if __name__ == "__main__":
    unittest.main()
