"""Points 23 to 25 and the interface of factorforge/restpapers.py."""

import copy
import itertools
import random
import unittest

from factorforge.errors import HasParts
from factorforge.kinds import Rests
from factorforge.restpapers import holds, paper
from reckoning import LONG, disguised, form, has_no_parts, lead_one, lies_in, product_of, product_of_all
from reckoning import rest_paper_is_good, slope_of, sum_of, without_parts

SMALL = ((2, 5), (3, 3), (5, 2), (7, 2))
LARGE = [(2, [1, 1] + [0] * 7 + [1]), (2, [1] * 13), (2, [1, 0, 0, 0, 0, 1] + [0] * 6 + [1]), (3, [1, 2, 0, 0, 0, 1]),
         (3, [2, 1, 0, 0, 0, 0, 1]), (5, [2] + [0] * 7 + [1]), (7, [2] + [0] * 5 + [1]), (9973, [-5, 1]),
         (9973, [-2, 0, 1]), (9973, [1, 5, 0, 1])]


def small_without_parts():
    for prime, most in SMALL:
        for degree in range(1, most + 1):
            yield from ((prime, g) for g in without_parts(prime, degree))


class PapersCase(unittest.TestCase):
    def assert_holds(self, expected, prime, g, one):
        with self.subTest(prime=prime, g=g, paper=one):
            self.assertIs(holds(Rests(prime), g, one), expected)
            self.assertIs(rest_paper_is_good(prime, g, one), expected)


class TestPaper(PapersCase):
    def assert_paper(self, prime, g):
        told = paper(Rests(prime), g)
        self.assertIs(told.__class__, tuple)
        self.assertEqual(len(told), 3)
        for one in told[:2]:
            self.assertIs(one.__class__, list)
            self.assertEqual(one, form(prime, one))
            self.assertTrue(lies_in(prime, one))
        self.assertIs(told[2].__class__, list)
        for row in told[2]:
            self.assertIs(row.__class__, list)
            self.assertTrue(lies_in(prime, row))
        self.assert_holds(True, prime, g, told)

    def test_each_without_parts(self):
        for prime, g in small_without_parts():
            self.assert_paper(prime, g)

    def test_others_without_parts(self):
        for prime, g in LARGE:
            self.assertTrue(has_no_parts(prime, g))
            self.assert_paper(prime, g)

    def test_numbers_not_brought_to_the_kind(self):
        source = random.Random(81)
        for prime, g in list(small_without_parts()) + LARGE:
            self.assert_paper(prime, disguised(source, prime, g))

    def test_degree_one(self):
        for prime in (2, 3, 9973):
            for number in (0, 1, -1, LONG):
                self.assert_paper(prime, [number, 1])
                self.assertEqual(paper(Rests(prime), [number, 1])[2], [[]])

    def test_has_parts(self):
        for prime, most in SMALL:
            for degree in range(2, most + 1):
                found = without_parts(prime, degree)
                for g in lead_one(prime, degree):
                    if g not in found:
                        with self.subTest(prime=prime, g=g), self.assertRaises(HasParts):
                            paper(Rests(prime), g)

    def test_has_parts_of_degree_twelve(self):
        source = random.Random(82)
        for prime in (2, 3, 9973):
            for low in range(1, 7):
                f = [source.randrange(prime) for k in range(low)] + [1]
                g = [source.randrange(prime) for k in range(12 - low)] + [1]
                with self.subTest(prime=prime, f=f, g=g), self.assertRaises(HasParts):
                    paper(Rests(prime), product_of(prime, f, g))

    def test_squares_have_parts(self):
        for prime, g in list(small_without_parts()) + LARGE:
            for often in range(2, 12 // (len(g) - 1) + 1):
                with self.subTest(prime=prime, g=g, often=often), self.assertRaises(HasParts):
                    paper(Rests(prime), product_of_all(prime, [g] * often))


class TestHolds(PapersCase):
    def each_paper(self):
        for prime, g in list(small_without_parts()) + LARGE:
            yield prime, g, paper(Rests(prime), g)

    def test_a_b_or_g_changed_in_one_number(self):
        for prime, g, (a, b, r) in self.each_paper():
            for at in range(len(g)):
                for change in {1, prime - 1}:
                    self.assert_holds(False, prime, g, (changed(a, at, change), b, r))
                    self.assert_holds(False, prime, g, (a, changed(b, at, change), r))
                    other = changed(g, at, change)
                    self.assertIs(holds(Rests(prime), other, (a, b, r)), rest_paper_is_good(prime, other, (a, b, r)))

    def test_g_changed_is_another_polynomial(self):
        for prime, g, one in self.each_paper():
            self.assertTrue(any(not holds(Rests(prime), changed(g, at, 1), one) for at in range(len(g))))

    def test_r_changed_in_one_number(self):
        for prime, g, (a, b, r) in self.each_paper():
            degree = len(g) - 1
            found = []
            for i, j in itertools.product(range(degree), range(degree - 1)):
                other = copy.deepcopy(r)
                other[i][j] += 1
                found.append(rest_paper_is_good(prime, g, (a, b, other)))
                self.assert_holds(found[-1], prime, g, (a, b, other))
            # All but one of the rows are asked for something by the product.
            self.assertGreaterEqual(found.count(False), (degree - 1) * (degree - 1))

    def test_lengths_of_r(self):
        for prime, g, (a, b, r) in self.each_paper():
            degree = len(g) - 1
            self.assert_holds(False, prime, g, (a, b, r[:-1]))
            self.assert_holds(False, prime, g, (a, b, r + [[0] * (degree - 1)]))
            self.assert_holds(False, prime, g, (a, b, []))
            for at in range(degree):
                self.assert_holds(False, prime, g, (a, b, r[:at] + [r[at] + [0]] + r[at + 1:]))
                self.assert_holds(False, prime, g, (a, b, [row + [0] for row in r]))
                if degree > 1:
                    self.assert_holds(False, prime, g, (a, b, r[:at] + [r[at][:-1]] + r[at + 1:]))
                    self.assert_holds(False, prime, g, (a, b, [row[:-1] for row in r]))

    def test_forty_numbers_and_rows(self):
        for prime, g, (a, b, r) in self.each_paper():
            self.assert_holds(True, prime, g, (a + [0] * (40 - len(a)), b + [prime] * (40 - len(b)), r))
            self.assert_holds(False, prime, g, (a + [0] * (39 - len(a)) + [1], b, r))
            self.assert_holds(False, prime, g, (a, b, r + [[1] * 40] * (40 - len(r))))

    def test_multiples_of_the_prime_change_nothing(self):
        source = random.Random(83)
        for prime, g, (a, b, r) in self.each_paper():
            rows = [[number + prime * source.choice([-1, 2, LONG]) for number in row] for row in r]
            other = (disguised(source, prime, a), disguised(source, prime, b), rows)
            self.assert_holds(True, prime, disguised(source, prime, g), other)

    def test_other_leads(self):
        for prime, g, (a, b, r) in self.each_paper():
            for lead in range(2, min(prime, 6)):
                turned = pow(lead, -1, prime)
                other = ([turned * number for number in a], [turned * number for number in b], r)
                multiple = [lead * number for number in g]
                self.assertEqual(sum_of(prime, product_of(prime, other[0], multiple),
                                        product_of(prime, other[1], slope_of(prime, multiple))), [1])
                self.assert_holds(False, prime, multiple, other)

    def test_degree_nought_and_nought(self):
        for prime in (2, 3, 9973):
            for g in ([1], [1, 0], [-1], [1, prime, 0], [], [0], [prime, 0, -prime]):
                for r in ([], [[]], [[0]], [[1]], [[], []]):
                    for a in ([], [1], [-1]):
                        self.assert_holds(False, prime, g, (a, [], r))
                        self.assert_holds(False, prime, g, (a, [1], r))

    def test_degree_one(self):
        for prime in (2, 3, 9973):
            for number in (0, 1, -1, prime, LONG):
                g = [number, 1]
                self.assert_holds(True, prime, g, ([], [1], [[]]))
                self.assert_holds(True, prime, g, ([1], [1 - number, -1], [[]]))
                self.assert_holds(False, prime, g, ([], [], [[]]))
                self.assert_holds(False, prime, g, ([1], [1], [[]]))
                for r in ([], [[], []], [[0]], [[1]], [[0, 0]]):
                    self.assert_holds(False, prime, g, ([], [1], r))

    def test_a_product_has_no_good_paper(self):
        for prime in (2, 3):
            found = without_parts(prime, 2)
            numbers = [list(one) for one in itertools.product(range(prime), repeat=2)]
            for g in [g for g in lead_one(prime, 2) if g not in found]:
                for a, b, column in itertools.product(numbers, repeat=3):
                    self.assertIs(holds(Rests(prime), g, (a, b, [[number] for number in column])), False)

    def test_a_product_with_papers_of_others(self):
        papers = list(self.each_paper())
        for prime in (2, 3, 5):
            ones = [g for other, g in small_without_parts() if other == prime]
            for f, g in itertools.combinations_with_replacement(ones[:8], 2):
                product = product_of(prime, f, g)
                for other, h, one in papers:
                    if other == prime:
                        self.assertIs(holds(Rests(prime), product, one), False)


def changed(numbers, at, change):
    """The list, filled up with noughts where it is too short, with that much more at that place."""
    filled = numbers + [0] * (at + 1 - len(numbers))
    return filled[:at] + [filled[at] + change] + filled[at + 1:]


if __name__ == "__main__":
    unittest.main()
