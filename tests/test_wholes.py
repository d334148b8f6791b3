"""Points 27 and 28 and the interface of factorforge/wholes.py."""

import random
import unittest
from math import gcd

from cases import PolysCase
from factorforge.wholes import bared, goes, steps, whole_common
from reckoning import LONG, bare_of, form, product_of, product_of_all, sum_of, whole_common_of

HUNDRED = 10 ** 100 - 1


def some_whole(source, most, size=6):
    return [source.randrange(-size, size + 1) for k in range(source.randrange(0, most + 1))]


class TestBared(PolysCase):
    def assert_bared(self, f, content, g):
        with self.subTest(f=f):
            told = bared(f)
            self.assertIs(told.__class__, tuple)
            self.assertEqual(len(told), 2)
            self.assertIs(told[0].__class__, int)
            self.assertEqual(told[0], content)
            self.assert_poly(told[1], g)

    def test_written_out(self):
        self.assert_bared([6, -4, 2], 2, [3, -2, 1])
        self.assert_bared([2, 3], 1, [2, 3])
        self.assert_bared([0, 0, 5], 5, [0, 0, 1])
        self.assert_bared([0, 4, 0, 6], 2, [0, 2, 0, 3])

    def test_nought(self):
        for f in ([], [0], [0, 0, 0]):
            self.assert_bared(f, 0, [])

    def test_a_lead_below_nought(self):
        self.assert_bared([6, -4, -2], -2, [-3, 2, 1])
        self.assert_bared([-1, -1], -1, [1, 1])
        self.assert_bared([1, -1], -1, [-1, 1])
        self.assert_bared([0, -7], -7, [0, 1])

    def test_noughts_at_the_end(self):
        self.assert_bared([3, 6, 0, 0], 3, [1, 2])
        self.assert_bared([-3, -6, 0], -3, [1, 2])

    def test_without_x(self):
        for number in (1, -1, 12, -12, HUNDRED, -HUNDRED):
            self.assert_bared([number], number, [1])
            self.assert_bared([number, 0], number, [1])

    def test_long_numbers(self):
        self.assert_bared([HUNDRED, -HUNDRED, 3 * HUNDRED // 9], HUNDRED // 3, [3, -3, 1])
        self.assert_bared([HUNDRED, HUNDRED - 1], 1, [HUNDRED, HUNDRED - 1])

    def test_many(self):
        source = random.Random(101)
        for trial in range(300):
            f = [source.choice([1, -1, 6, -35, LONG]) * number for number in some_whole(source, 24, 10 ** 30)]
            f = [source.choice([1, 12, 10 ** 20]) * number for number in f]
            self.assert_bared(f, *bare_of(f))
            content, g = bared(f)
            self.assertEqual(form(0, [content * number for number in g]), form(0, f))
            if g:
                self.assertEqual(gcd(*g), 1)
                self.assertGreater(g[-1], 0)


class TestWholeCommon(PolysCase):
    def assert_common(self, f, g, expected):
        for one, other in ((f, g), (g, f)):
            with self.subTest(f=one, g=other):
                self.assert_poly(whole_common(one, other), expected)

    def test_both_nought(self):
        self.assert_common([], [], [])
        self.assert_common([0], [0, 0], [])

    def test_one_nought(self):
        for nought in ([], [0], [0, 0]):
            self.assert_common(nought, [6, -4, -2], [-3, 2, 1])
            self.assert_common(nought, [-5], [1])
            self.assert_common(nought, [0, 2, 0], [0, 1])

    def test_nothing_in_common(self):
        self.assert_common([1, 1], [2, 1], [1])
        self.assert_common([2, 2], [4], [1])
        self.assert_common([6], [-9], [1])
        self.assert_common([6, 6], [4, 2], [1])
        self.assert_common([1, 0, 1], [-1, 0, 1], [1])
        self.assert_common([2] + [0] * 22 + [1], [3] + [0] * 22 + [1], [1])

    def test_contents_do_not_matter(self):
        self.assert_common([6, 6], [4, 4], [1, 1])
        self.assert_common([6, 6], [6, 6], [1, 1])
        self.assert_common([12], [12], [1])
        self.assert_common([5, 10], [15, 30], [1, 2])

    def test_signs(self):
        for one in (1, -1, 3, -3):
            for other in (1, -1, 2, -2):
                f = product_of_all(0, [[3, -2], [1, 1]], one)
                g = product_of_all(0, [[3, -2], [5, 1]], other)
                self.assert_common(f, g, [-3, 2])

    def test_one_going_into_the_other(self):
        for d in ([1, 1], [-3, 2], [1, 0, 1], [5, 4, 3, 2]):
            for more in ([1], [-1], [7], [2, 3], [1, -1, 1], d):
                self.assert_common(product_of(0, d, more), d, d)
                self.assert_common(product_of(0, d, more), [-number for number in d], d)

    def test_small_ones(self):
        source = random.Random(102)
        for trial in range(1500):
            d = some_whole(source, 4, 3)
            f = product_of(0, d, some_whole(source, 5, 3))
            g = product_of(0, d, some_whole(source, 5, 3))
            self.assert_common(f, g, whole_common_of(f, g))

    def test_long_numbers(self):
        source = random.Random(103)
        for trial in range(6):
            d = [source.randrange(-10 ** 50, 10 ** 50) for k in range(6)] + [10 ** 49 + trial]
            f = product_of(0, d, [source.randrange(-10 ** 48, 10 ** 48) for k in range(12)] + [7])
            g = product_of(0, d, [source.randrange(-10 ** 48, 10 ** 48) for k in range(16)] + [-9])
            self.assert_common(f, g, bare_of(d)[1])

    def test_twenty_four_long_numbers(self):
        source = random.Random(104)
        f, g = ([source.randrange(-HUNDRED, HUNDRED) for k in range(24)] for trial in range(2))
        self.assert_common(f, g, [1])
        self.assert_common(f, f, bare_of(f)[1])


class TestGoes(PolysCase):
    def assert_goes(self, f, g, expected):
        with self.subTest(f=f, g=g):
            told = goes(f, g)
            if expected is None:
                self.assertIsNone(told)
            else:
                self.assert_poly(told, expected)

    def test_written_out(self):
        self.assert_goes([-1, 0, 1], [1, 1], [-1, 1])
        self.assert_goes([-1, 0, 1], [2, 1], None)
        self.assert_goes([2, 4], [1, 2], [2])
        self.assert_goes([1, 2], [2, 4], None)
        self.assert_goes([1, 1], [1, 1, 1], None)
        self.assert_goes([1, 2, 1], [1, 1, 0, 0], [1, 1])

    def test_f_nought(self):
        for f in ([], [0], [0, 0]):
            for g in ([1], [-5], [1, 1], [3, 0, -2]):
                self.assert_goes(f, g, [])

    def test_g_of_degree_nought(self):
        self.assert_goes([6, -9], [3], [2, -3])
        self.assert_goes([6, -9], [-3], [-2, 3])
        self.assert_goes([6, -8], [3], None)
        self.assert_goes([7, -9], [3], None)
        self.assert_goes([5], [5, 0], [1])
        self.assert_goes([5], [10], None)

    def test_a_rest_is_left(self):
        self.assert_goes([1, 0, 1], [1, 1], None)
        self.assert_goes([3], [0, 1], None)
        self.assert_goes([1, 0, 0, 4], [0, 0, 2], None)

    def test_leads(self):
        for q in ([1], [-1, 3], [2, 0, -5], [0, 0, 7]):
            for g in ([1, 2], [3, -2], [-1, 0, -4], [LONG, -LONG]):
                f = product_of(0, q, g)
                self.assert_goes(f, g, q)
                self.assert_goes(f + [0, 0], g + [0], q)
                self.assert_goes(sum_of(0, f, [1]), g, None)

    def test_fractions_do_not_count(self):
        # Over fractions 2x + 1 goes into these.
        self.assert_goes([1, 3, 2], [2, 4], None)
        self.assert_goes([3, 7, 2], [6, 2], None)
        self.assert_goes([1, 3, 2], [1, 2], [1, 1])

    def test_long_numbers(self):
        g = [HUNDRED, -3, 0, -HUNDRED]
        q = [-HUNDRED, 5, HUNDRED - 1]
        self.assert_goes(product_of(0, q, g), g, q)
        self.assert_goes(sum_of(0, product_of(0, q, g), [0, 0, 0, 0, 1]), g, None)


class TestSteps(PolysCase):
    def assert_steps(self, f, c):
        """q * c + r is f times c's lead, as often as f is longer and once more, and r is shorter than c."""
        with self.subTest(f=f, c=c):
            told = steps(f, c)
            self.assertIs(told.__class__, tuple)
            self.assertEqual(len(told), 2)
            q, r = told
            self.assert_in_form(0, q)
            self.assert_in_form(0, r)
            whole, divisor = form(0, f), form(0, c)
            self.assertLess(len(r), len(divisor))
            if len(whole) < len(divisor):
                self.assertEqual(told, ([], whole))
            else:
                often = divisor[-1] ** (len(whole) - len(divisor) + 1)
                self.assertEqual(sum_of(0, product_of(0, q, divisor), r), form(0, [often * number for number in whole]))

    def test_written_out(self):
        self.assert_pair(steps([1, 0, 1], [1, 2]), [-1, 2], [5])
        self.assert_pair(steps([1, 0, 0, 1], [0, 0, 2]), [0, 2], [4])
        self.assert_pair(steps([5, 4], [3]), [15, 12], [])
        self.assert_pair(steps([5, 4], [0, 0, 3]), [], [5, 4])
        self.assert_pair(steps([2, 4], [1, 2]), [4], [])

    def test_f_shorter(self):
        for f in ([], [0], [1], [-3, 0], [2, 5, 0, 0]):
            for c in ([0, 0, 3], [1, 2, 3, -4], [0, 0, -1, 0]):
                self.assert_pair(steps(f, c), [], form(0, f))

    def test_as_long(self):
        self.assert_pair(steps([1, 2, 3], [4, 5, 6]), [3], [-6, -3])
        self.assert_pair(steps([7], [-2]), [7], [])
        self.assert_pair(steps([1, -1], [1, -1]), [-1], [])

    def test_c_of_degree_nought(self):
        self.assert_pair(steps([], [5]), [], [])
        self.assert_pair(steps([0, 0], [5]), [], [])
        self.assert_pair(steps([3], [5]), [3], [])
        self.assert_pair(steps([1, 2, 3], [-2]), [4, 8, 12], [])
        self.assert_pair(steps([1, 2, 3], [1]), [1, 2, 3], [])

    def test_what_is_left_becomes_much_shorter(self):
        self.assert_pair(steps([0, 0, 0, 0, 1], [0, 2]), [0, 0, 0, 8], [])
        self.assert_pair(steps([1, 0, 0, 0, 1], [0, 3]), [0, 0, 0, 27], [81])
        self.assert_pair(steps([5, 0, 0, 3, 0, 2], [3, 0, 2]), [0, 0, 0, 16], [80])

    def test_many(self):
        source = random.Random(105)
        for trial in range(1500):
            c = some_whole(source, 5)
            if form(0, c):
                self.assert_steps(some_whole(source, 9), c)

    def test_leads(self):
        for lead in (1, -1, 2, -2, LONG, -LONG):
            for f in ([1, 2, 3, 4, 5], [0, 0, 0, -7], [LONG, 1, -LONG, 3], [1, 1]):
                self.assert_steps(f, [3, -1, lead])
                self.assert_steps(f, [lead])
                self.assert_steps(f, [1, lead, 0])

    def test_long_numbers(self):
        source = random.Random(106)
        f = [source.randrange(-HUNDRED, HUNDRED) for k in range(24)]
        for length in (2, 12, 13, 23, 24):
            self.assert_steps(f, [source.randrange(-HUNDRED, HUNDRED) for k in range(length)])


if __name__ == "__main__":
    unittest.main()
