"""Points 21 and 22 and the interface of factorforge/parting.py."""

import random
import unittest

from cases import PolysCase
from factorforge.errors import Nought
from factorforge.kinds import Rests
from factorforge.parting import parts, split
from reckoning import LONG, disguised, form, goes_into, lead_one, order_key, product_of_all, product_of_pairs
from reckoning import without_parts

# Without parts over the rests by the prime, of each length and found by trying.
SMALL = {2: [g for degree in range(1, 7) for g in without_parts(2, degree)],
         3: [g for degree in range(1, 5) for g in without_parts(3, degree)],
         5: [g for degree in range(1, 4) for g in without_parts(5, degree)],
         13: [g for degree in range(1, 3) for g in without_parts(13, degree)]}

# x^2 - n has no parts where n is no square, and each x - n has none.
SQUARES_BY_9973 = {number * number % 9973 for number in range(9973)}
LARGE = [[-number % 9973, 0, 1] for number in range(1, 9973) if number not in SQUARES_BY_9973][:40]
LARGE += [[number, 1] for number in range(0, 9973, 97)]


def pieces_for(prime):
    return SMALL.get(prime, LARGE)


def chosen(source, prime, most):
    """Unlike polynomials without parts whose degrees add up to at most most."""
    found = []
    for g in source.sample(pieces_for(prime), min(40, len(pieces_for(prime)))):
        if sum(len(one) - 1 for one in found + [g]) <= most:
            found.append(g)
    return found


class TestSplit(PolysCase):
    def assert_split(self, prime, g, expected):
        with self.subTest(prime=prime, g=g):
            told = split(Rests(prime), g)
            self.assertIs(told.__class__, list)
            for one in told:
                self.assert_in_form(prime, one)
            self.assertEqual(told, expected)

    def test_written_out(self):
        self.assert_split(5, [4, 0, 1], [[1, 1], [4, 1]])
        self.assert_split(5, [1, 0, 1], [[2, 1], [3, 1]])
        self.assert_split(3, [1, 0, 1], [[1, 0, 1]])
        self.assert_split(2, [1, 0, 0, 1], [[1, 1], [1, 1, 1]])
        self.assert_split(9973, [7, 1], [[7, 1]])

    def test_products_of_known_parts(self):
        source = random.Random(71)
        for prime in (2, 3, 5, 13, 9973):
            for trial in range(40):
                pieces = chosen(source, prime, source.randrange(1, 13))
                if pieces:
                    g = disguised(source, prime, product_of_all(prime, pieces))
                    self.assert_split(prime, g, sorted(pieces, key=order_key))

    def test_each_without_parts(self):
        for prime in (2, 3, 5, 13):
            for g in SMALL[prime]:
                self.assert_split(prime, g, [g])

    def test_all_of_degree_one(self):
        for prime in (2, 3, 5, 7, 11):
            g = [0, -1] + [0] * (prime - 2) + [1]
            self.assert_split(prime, g, [[number, 1] for number in range(prime)])
        twelve = [[number, 1] for number in (0, 1, 2, 4000, 5000, 6000, 7000, 8000, 9000, 9970, 9971, 9972)]
        self.assert_split(9973, product_of_all(9973, twelve), twelve)

    def test_several_of_one_degree(self):
        for prime, degree in ((2, 4), (2, 5), (3, 2), (3, 3), (5, 2), (13, 2)):
            pieces = without_parts(prime, degree)[: 12 // degree]
            self.assert_split(prime, product_of_all(prime, pieces), pieces)

    def test_the_order(self):
        # The number at the least power counts first, and shorter ones stand ahead whatever their numbers.
        pieces = [[4, 1], [1, 4, 1], [2, 0, 1], [2, 1, 1], [2, 4, 1], [3, 0, 1]]
        for g in pieces:
            self.assertIn(g, SMALL[5])
        for at in range(5):
            turned = pieces[at:] + pieces[:at]
            self.assert_split(5, product_of_all(5, turned), pieces)


class TestParts(PolysCase):
    def assert_parts(self, prime, f, lead, pairs):
        with self.subTest(prime=prime, f=f):
            told = parts(Rests(prime), f)
            self.assertIs(told.__class__, tuple)
            self.assertEqual(len(told), 2)
            self.assertIs(told[0].__class__, int)
            self.assert_pairs(prime, told[1])
            self.assertEqual(told, (lead, pairs))
            self.assertEqual(product_of_pairs(prime, told[0], told[1]), form(prime, f))

    def test_written_out(self):
        self.assert_parts(5, [1, 2, 1], 1, [([1, 1], 2)])
        self.assert_parts(5, [3, 0, 2], 2, [([1, 1], 1), ([4, 1], 1)])
        self.assert_parts(2, [0, 0, 1, 0, 1], 1, [([0, 1], 2), ([1, 1], 2)])
        self.assert_parts(7, [0, 0, 0, 3], 3, [([0, 1], 3)])

    def test_without_x(self):
        for prime in (2, 3, 9973):
            for number in (1, -1, 2 * prime + 1, 1 - LONG * prime):
                self.assert_parts(prime, [number], number % prime, [])
                self.assert_parts(prime, [number, prime, -prime, 0], number % prime, [])

    def test_nought(self):
        for prime in (2, 3, 9973):
            for f in ([], [0], [0, 0, 0], [prime], [-prime, LONG * prime, 0]):
                with self.subTest(prime=prime, f=f), self.assertRaises(Nought):
                    parts(Rests(prime), f)

    def test_products_of_known_parts(self):
        source = random.Random(72)
        for prime in (2, 3, 5, 13, 9973):
            for trial in range(40):
                pairs = [(g, 1) for g in chosen(source, prime, source.randrange(1, 7))]
                for at, (g, e) in enumerate(pairs):
                    room = 12 - sum((len(one) - 1) * often for one, often in pairs)
                    pairs[at] = (g, e + source.randrange(0, room // (len(g) - 1) + 1))
                lead = source.randrange(1, prime)
                f = disguised(source, prime, product_of_pairs(prime, lead, pairs))
                self.assert_parts(prime, f, lead, sorted(pairs, key=lambda pair: order_key(pair[0])))

    def test_powers_of_one(self):
        for prime in (2, 3, 5, 9973):
            for e in range(1, 13):
                self.assert_parts(prime, product_of_pairs(prime, 1, [([1, 1], e)]), 1, [([1, 1], e)])
                self.assert_parts(prime, [0] * e + [-1], prime - 1, [([0, 1], e)])

    def test_leads(self):
        for prime in (3, 5, 9973):
            for lead in (2, -1, prime + 2, 2 - LONG * prime):
                f = product_of_pairs(0, lead, [([0, 1], 2), ([1, 1], 1)])
                self.assert_parts(prime, f, lead % prime, [([0, 1], 2), ([1, 1], 1)])

    def test_the_order_is_not_that_of_e(self):
        pairs = [([1, 1], 4), ([4, 1], 1), ([2, 0, 1], 2), ([3, 0, 1], 1)]
        self.assert_parts(5, product_of_pairs(5, 1, pairs), 1, pairs)

    def test_all_small_ones(self):
        for prime, most in ((2, 6), (3, 4), (5, 3)):
            for f in [f for degree in range(1, most + 1) for f in lead_one(prime, degree)]:
                pairs = []
                for g in SMALL[prime]:
                    e = 0
                    while goes_into(prime, product_of_pairs(prime, 1, [(g, e + 1)]), f):
                        e += 1
                    pairs += [(g, e)] if e else []
                self.assert_parts(prime, f, 1, sorted(pairs, key=lambda pair: order_key(pair[0])))

    def test_degree_twelve(self):
        # x^12 - 1: what of each degree goes in is known from the orders of the roots.
        for prime, degrees in ((5, [1, 1, 1, 1, 2, 2, 2, 2]), (7, [1] * 6 + [2] * 3), (11, [1, 1] + [2] * 5),
                               (13, [1] * 12), (9973, [1] * 12)):
            told = parts(Rests(prime), [-1] + [0] * 11 + [1])
            self.assertEqual([len(g) - 1 for g, e in told[1]], degrees)
            self.assert_parts(prime, [-1] + [0] * 11 + [1], *told)
        self.assert_parts(2, [-1] + [0] * 11 + [1], 1, [([1, 1], 4), ([1, 1, 1], 4)])


if __name__ == "__main__":
    unittest.main()
