"""Points 1, 9 and 10 and the interface of factorforge/polys.py."""

import random
import unittest
from fractions import Fraction

from cases import PolysCase
from factorforge import polys
from factorforge.errors import NoOver
from factorforge.kinds import Powers, Rests, Wholes
from reckoning import LONG, form, in_form, product_of, samples, slope_of, some_numbers, sum_of, value_of


def kinds():
    """(name, kind, prime, size), the size reckoned here."""
    found = [("Wholes()", Wholes(), 0, 0)]
    for prime in (2, 3, 5, 7, 101, 9973):
        found.append((f"Rests({prime})", Rests(prime), prime, prime))
    for prime, many in ((2, 1), (2, 3), (2, 400), (3, 2), (5, 4), (7, 2), (9973, 1), (9973, 3), (9973, 400)):
        found.append((f"Powers({prime}, {many})", Powers(prime, many), prime, prime ** many))
    return found


def whole_division(f, g):
    """(quotient, rest) over the whole numbers, or None where some number of the quotient is a fraction."""
    rest = [Fraction(number) for number in form(0, f)]
    divisor = form(0, g)
    quotient = {}
    for gap in range(len(rest) - len(divisor), -1, -1):
        share = rest[gap + len(divisor) - 1] / divisor[-1]
        if share.denominator != 1:
            return None
        quotient[gap] = int(share)
        for at, number in enumerate(divisor):
            rest[gap + at] -= share * number
    return in_form(0, quotient), in_form(0, {at: int(number) for at, number in enumerate(rest)})


class TestTrimmed(PolysCase):
    def test_written_out(self):
        for kind, f, expected in (
            (Wholes(), [], []), (Wholes(), [0], []), (Wholes(), [0, 0, 0], []),
            (Wholes(), [3, 0, -2, 0, 0], [3, 0, -2]), (Wholes(), [0, 0, 5], [0, 0, 5]), (Wholes(), [-LONG, 0], [-LONG]),
            (Rests(5), [5, -1, 10, 7, 5, -5], [0, 4, 0, 2]), (Rests(5), [5, -10, LONG * 5], []),
            (Rests(2), [-1, 2, 3, 4], [1, 0, 1]), (Powers(3, 2), [9, 3, -1, 18, 9], [0, 3, 8]),
            (Powers(3, 2), [3, 6, 9], [3, 6]), (Powers(2, 3), [8, 16, -8], []),
        ):
            with self.subTest(f=f, size=kind.size):
                self.assert_poly(polys.trimmed(kind, f), expected)

    def test_over_each_kind(self):
        for name, kind, prime, size in kinds():
            for f in samples(random.Random(1), size):
                with self.subTest(name, f=f):
                    self.assert_poly(polys.trimmed(kind, f), form(size, f))

    def test_eighty_numbers(self):
        for name, kind, prime, size in kinds():
            f = some_numbers(random.Random(2), size, 70) + [size] * 10
            with self.subTest(name):
                self.assert_poly(polys.trimmed(kind, f), form(size, f))


class TestSums(PolysCase):
    def test_plus_and_less_over_each_kind(self):
        for name, kind, prime, size in kinds():
            for f in samples(random.Random(3), size, 12):
                for g in samples(random.Random(4), size, 12):
                    with self.subTest(name, f=f, g=g):
                        self.assert_poly(polys.plus(kind, f, g), sum_of(size, f, g))
                        self.assert_poly(polys.less(kind, f, g), sum_of(size, f, g, -1))

    def test_unlike_lengths(self):
        self.assert_poly(polys.plus(Wholes(), [1, 2, 3], [10]), [11, 2, 3])
        self.assert_poly(polys.plus(Wholes(), [10], [1, 2, 3]), [11, 2, 3])
        self.assert_poly(polys.less(Wholes(), [1, 2, 3], [10]), [-9, 2, 3])
        self.assert_poly(polys.less(Wholes(), [10], [1, 2, 3]), [9, -2, -3])
        self.assert_poly(polys.less(Rests(7), [], [1, 2, 3]), [6, 5, 4])
        self.assert_poly(polys.plus(Powers(2, 2), [], [-1, 6, 4]), [3, 2])

    def test_what_cancels_at_the_end_is_cut_off(self):
        self.assert_poly(polys.plus(Wholes(), [1, 2, 3], [1, -2, -3]), [2])
        self.assert_poly(polys.plus(Wholes(), [1, 2, 3], [-1, -2, -3]), [])
        self.assert_poly(polys.less(Wholes(), [1, 2, 3], [0, 2, 3]), [1])
        self.assert_poly(polys.plus(Rests(5), [1, 2, 3], [1, 3, 2]), [2])
        self.assert_poly(polys.less(Rests(5), [1, 2, 3], [1, 2, -2]), [])
        self.assert_poly(polys.plus(Powers(3, 2), [1, 8, 5], [1, 1, 4]), [2])
        self.assert_poly(polys.less(Powers(3, 2), [1, 8, 5], [0, 2, 14]), [1, 6])

    def test_the_same_list_twice(self):
        for name, kind, prime, size in kinds():
            for f in samples(random.Random(5), size):
                with self.subTest(name, f=f):
                    self.assert_poly(polys.plus(kind, f, f), form(size, [2 * number for number in f]))
                    self.assert_poly(polys.less(kind, f, f), [])


class TestProducts(PolysCase):
    def test_times_over_each_kind(self):
        for name, kind, prime, size in kinds():
            for f in samples(random.Random(6), size, 8):
                for g in samples(random.Random(7), size, 8):
                    with self.subTest(name, f=f, g=g):
                        self.assert_poly(polys.times(kind, f, g), product_of(size, f, g))

    def test_times_written_out(self):
        self.assert_poly(polys.times(Wholes(), [1, 1], [-1, 1]), [-1, 0, 1])
        self.assert_poly(polys.times(Wholes(), [1, 2, 3], [4, 5]), [4, 13, 22, 15])
        self.assert_poly(polys.times(Wholes(), [], [4, 5]), [])
        self.assert_poly(polys.times(Wholes(), [4, 5], [0, 0]), [])
        self.assert_poly(polys.times(Rests(2), [1, 1], [1, 1]), [1, 0, 1])

    def test_times_where_leads_give_nought(self):
        self.assert_poly(polys.times(Powers(2, 2), [1, 2], [1, 2]), [1])
        self.assert_poly(polys.times(Powers(2, 2), [2, 2], [2, 2]), [])
        self.assert_poly(polys.times(Powers(3, 2), [1, 3], [1, 1, 6]), [1, 4])

    def test_scaled_over_each_kind(self):
        for name, kind, prime, size in kinds():
            for f in samples(random.Random(8), size):
                for number in (0, 1, -1, 2, 3, prime, -prime, size, size + 1, LONG, -LONG):
                    with self.subTest(name, f=f, number=number):
                        self.assert_poly(polys.scaled(kind, f, number), form(size, [number * a for a in f]))

    def test_scaled_written_out(self):
        self.assert_poly(polys.scaled(Wholes(), [1, -2, 3, 0], -2), [-2, 4, -6])
        self.assert_poly(polys.scaled(Wholes(), [1, -2, 3], 0), [])
        self.assert_poly(polys.scaled(Powers(2, 2), [1, 1, 2], 2), [2, 2])
        self.assert_poly(polys.scaled(Rests(7), [1, 2, 3], 14), [])

    def test_eighty_numbers(self):
        for name, kind, prime, size in kinds():
            f = some_numbers(random.Random(9), size, 80)
            g = some_numbers(random.Random(10), size, 80)
            with self.subTest(name):
                self.assert_poly(polys.plus(kind, f, g), sum_of(size, f, g))
                self.assert_poly(polys.less(kind, f, g), sum_of(size, f, g, -1))
                self.assert_poly(polys.times(kind, f, g), product_of(size, f, g))


class TestPower(PolysCase):
    def test_none_of_them_is_one(self):
        for name, kind, prime, size in kinds():
            for f in ([], [0], [0, 0], [1], [size, size], [1, 2, 3], [prime], [-LONG, 1]):
                with self.subTest(name, f=f):
                    self.assert_poly(polys.power(kind, f, 0), [1])

    def test_nought_taken_once_or_oftener(self):
        for name, kind, prime, size in kinds():
            for f in ([], [0], [0, 0], [size], [0, -size, 0]):
                for many in (1, 2, 40):
                    with self.subTest(name, f=f, many=many):
                        self.assert_poly(polys.power(kind, f, many), [])

    def test_over_each_kind(self):
        for name, kind, prime, size in kinds():
            for f in ([1, 1], [-1, 2, 0], [3, 0, -1, 5], [prime, 1], [LONG], [-2]):
                expected = [1]
                for many in range(0, 41):
                    with self.subTest(name, f=f, many=many):
                        self.assert_poly(polys.power(kind, f, many), expected)
                    expected = product_of(size, expected, f)

    def test_written_out(self):
        self.assert_poly(polys.power(Wholes(), [1, 1], 4), [1, 4, 6, 4, 1])
        self.assert_poly(polys.power(Wholes(), [0, 2, 0], 40), [0] * 40 + [2 ** 40])
        self.assert_poly(polys.power(Rests(5), [1, 1], 25), [1] + [0] * 24 + [1])
        self.assert_poly(polys.power(Powers(2, 3), [2, 2], 2), [4, 0, 4])
        self.assert_poly(polys.power(Powers(2, 3), [2, 2], 3), [])
        self.assert_poly(polys.power(Wholes(), [3, 0, 7, 0, 0], 1), [3, 0, 7])

    def test_eighty_numbers(self):
        for name, kind, prime, size in kinds():
            f = some_numbers(random.Random(11), size, 80)
            with self.subTest(name):
                self.assert_poly(polys.power(kind, f, 2), product_of(size, f, f))


class TestSlope(PolysCase):
    def test_over_each_kind(self):
        for name, kind, prime, size in kinds():
            for f in samples(random.Random(12), size) + [some_numbers(random.Random(13), size, 80)]:
                with self.subTest(name, f=f):
                    self.assert_poly(polys.slope(kind, f), slope_of(size, f))

    def test_written_out(self):
        self.assert_poly(polys.slope(Wholes(), [7, -1, 3, 0, -5]), [-1, 6, 0, -20])
        for f in ([], [0], [9], [9, 0, 0]):
            self.assert_poly(polys.slope(Wholes(), f), [])
        self.assert_poly(polys.slope(Rests(5), [1, 2, 0, 0, 0, 3]), [2])
        self.assert_poly(polys.slope(Rests(5), [1, 0, 0, 0, 0, 3]), [])
        self.assert_poly(polys.slope(Powers(2, 2), [0, 1, 2, 0, 1]), [1])
        self.assert_poly(polys.slope(Powers(2, 2), [0, 0, 1]), [0, 2])


class TestValue(PolysCase):
    def assert_value(self, kind, size, f, number):
        told = polys.value(kind, f, number)
        self.assertIs(told.__class__, int)
        self.assertEqual(told, value_of(size, f, number))

    def test_over_each_kind(self):
        for name, kind, prime, size in kinds():
            for f in samples(random.Random(14), size) + [some_numbers(random.Random(15), size, 80)]:
                for number in (0, 1, -1, 2, -3, prime, size - 1, size, size + 1, -size, 10 ** 18 + 9):
                    with self.subTest(name, f=f, number=number):
                        self.assert_value(kind, size, f, number)

    def test_long_numbers(self):
        for name, kind, prime, size in kinds():
            for f in samples(random.Random(16), size):
                for number in (LONG, -LONG):
                    with self.subTest(name, f=f, number=number):
                        self.assert_value(kind, size, f, number)

    def test_written_out(self):
        self.assertEqual(polys.value(Wholes(), [7, -1, 3], 2), 17)
        self.assertEqual(polys.value(Wholes(), [7, -1, 3], -2), 21)
        self.assertEqual(polys.value(Wholes(), [7, -1, 3], 0), 7)
        self.assertEqual(polys.value(Wholes(), [], 5), 0)
        self.assertEqual(polys.value(Wholes(), [0, 0], 5), 0)
        self.assertEqual(polys.value(Rests(7), [-1], 5), 6)
        self.assertEqual(polys.value(Rests(7), [7], 5), 0)
        self.assertEqual(polys.value(Powers(3, 2), [-1, 1], 0), 8)


class TestDivided(PolysCase):
    def assert_division(self, kind, size, f, g):
        """f is quotient times g and rest, the rest shorter than g; with a lead that can be turned this is one pair."""
        told = polys.divided(kind, f, g)
        self.assertIs(told.__class__, tuple)
        quotient, rest = told
        self.assert_pair(told, form(size, quotient), form(size, rest))
        self.assertLess(len(rest), len(form(size, g)))
        self.assertEqual(sum_of(size, product_of(size, quotient, g), rest), form(size, f))

    def test_rests_and_powers(self):
        for name, kind, prime, size in kinds()[1:]:
            for f in samples(random.Random(17), size, 16) + [some_numbers(random.Random(18), size, 80)]:
                for g in samples(random.Random(19), size, 16):
                    divisor = form(size, g)
                    with self.subTest(name, f=f, g=g):
                        if divisor and divisor[-1] % prime != 0:
                            self.assert_division(kind, size, f, g)
                        elif divisor and len(form(size, f)) < len(divisor):
                            self.assert_pair(polys.divided(kind, f, g), [], form(size, f))
                        else:
                            with self.assertRaises(NoOver):
                                polys.divided(kind, f, g)

    def test_wholes(self):
        source = random.Random(20)
        for trial in range(3000):
            f = [source.randrange(-6, 7) for k in range(source.randrange(0, 7))]
            g = [source.randrange(-3, 4) for k in range(source.randrange(0, 4))]
            if trial % 3 == 0:
                f = sum_of(0, product_of(0, f, g), g[:-1])
            with self.subTest(f=f, g=g):
                expected = whole_division(f, g) if form(0, g) else None
                if expected is None:
                    with self.assertRaises(NoOver):
                        polys.divided(Wholes(), f, g)
                else:
                    self.assert_pair(polys.divided(Wholes(), f, g), *expected)

    def test_wholes_with_long_numbers(self):
        g = [LONG, -3, 0, -LONG]
        f = product_of(0, g, [-LONG, 5, LONG + 1])
        self.assert_pair(polys.divided(Wholes(), f, g), [-LONG, 5, LONG + 1], [])
        self.assert_pair(polys.divided(Wholes(), sum_of(0, f, [1, 2, -LONG]), g), [-LONG, 5, LONG + 1], [1, 2, -LONG])
        with self.assertRaises(NoOver):
            polys.divided(Wholes(), sum_of(0, f, [0, 0, 0, 1]), g)

    def test_written_out(self):
        self.assert_pair(polys.divided(Wholes(), [-1, 0, 0, 1], [-1, 1]), [1, 1, 1], [])
        self.assert_pair(polys.divided(Wholes(), [5, 0, 0, 1], [1, 0, 1]), [0, 1], [5, -1])
        self.assert_pair(polys.divided(Wholes(), [1, 0, 0, 2], [0, 0, 2]), [0, 1], [1])
        self.assert_pair(polys.divided(Wholes(), [0, 0, 1], [1, -1]), [-1, -1], [1])
        self.assert_pair(polys.divided(Wholes(), [6, -9], [3]), [2, -3], [])
        self.assert_pair(polys.divided(Rests(5), [1, 0, 1], [2, 1]), [3, 1], [])
        self.assert_pair(polys.divided(Rests(2), [1, 1, 0, 1], [1, 0, 1]), [0, 1], [1])
        self.assert_pair(polys.divided(Powers(3, 2), [3, 4, 6], [1, 2]), [5, 3], [7])

    def test_of_one_length(self):
        self.assert_pair(polys.divided(Wholes(), [1, 2, 6], [1, 1, 3]), [2], [-1])
        self.assert_pair(polys.divided(Rests(7), [4], [5]), [5], [])
        self.assert_pair(polys.divided(Wholes(), [1, 2, 3], [1, 2, 3]), [1], [])

    def test_gaps_in_the_quotient(self):
        self.assert_pair(polys.divided(Wholes(), [0, 0, 1, 0, 0, 1], [1, 0, 0, 1]), [0, 0, 1], [])
        self.assert_pair(polys.divided(Rests(3), [1, 0, 0, 0, 0, 0, 1], [0, 1]), [0, 0, 0, 0, 0, 1], [1])
        self.assert_pair(polys.divided(Wholes(), [3, 2, 0, 0, 0, 2, 2], [1, 1]), [2, 0, 0, 0, 0, 2], [1])

    def test_f_shorter_than_g_whatever_the_leads(self):
        for kind, f, g, rest in (
            (Wholes(), [1, 3], [0, 0, 2], [1, 3]), (Wholes(), [], [2], []), (Wholes(), [0, 0, 0], [2], []),
            (Wholes(), [5, 0, 0, 0], [0, 7], [5]), (Wholes(), [1, 2], [0, 0, -1], [1, 2]),
            (Rests(5), [6, -1, 5, 10], [1, 1, 1], [1, 4]), (Rests(5), [5, 10], [2], []),
            (Powers(3, 2), [1, 4], [1, 1, 3], [1, 4]), (Powers(3, 2), [-1, 9], [0, 6], [8]),
            (Powers(3, 2), [9], [3], []), (Powers(2, 400), [1], [0, 2 ** 399], [1]),
        ):
            with self.subTest(size=kind.size, f=f, g=g):
                self.assert_pair(polys.divided(kind, f, g), [], rest)

    def test_lengths_are_those_of_what_was_brought_to_the_kind(self):
        self.assert_pair(polys.divided(Rests(7), [1, 2, 1], [1, 1, 7, 0]), [1, 1], [])
        self.assert_pair(polys.divided(Powers(2, 2), [1, 2, 1, 4], [1, 1, 8]), [1, 1], [])
        self.assert_pair(polys.divided(Wholes(), [1, 2, 1, 0, 0], [1, 1, 0]), [1, 1], [])
        self.assert_pair(polys.divided(Wholes(), [1, 0, 0, 0], [2, 3]), [], [1])

    def test_by_nought(self):
        for name, kind, prime, size in kinds():
            for g in ([], [0], [0, 0, 0], [size], [size, 0, -size], [5 * size, size]):
                for f in ([], [0], [size], [1], [1, 2, 3], [0, 1]):
                    with self.subTest(name, f=f, g=g), self.assertRaises(NoOver):
                        polys.divided(kind, f, g)

    def test_refused_at_the_first_step(self):
        for kind, f, g in (
            (Wholes(), [1, 3], [1, 2]), (Wholes(), [1], [2]), (Wholes(), [0, 0, -3], [2]),
            (Wholes(), [0, 1], [0, LONG]), (Powers(3, 2), [0, 6], [1, 3]), (Powers(3, 2), [6], [3]),
            (Powers(3, 2), [1, 1, 1], [1, 6]), (Powers(2, 400), [1, 1, 2], [1, 2]),
        ):
            with self.subTest(size=kind.size, f=f, g=g), self.assertRaises(NoOver):
                polys.divided(kind, f, g)

    def test_refused_at_a_later_step(self):
        for f, g in (
            ([1, 1, 4], [1, 2]), ([0, 0, 4, 6], [1, 2]), ([1, 2, 4], [2]), ([0, 0, 0, 3, 0, 4], [1, 2]),
            ([5, 0, 0, 9], [1, 3]), ([1, -2, -4], [-2]), ([0, 0, 1, 0, LONG], [0, 0, LONG]),
        ):
            with self.subTest(f=f, g=g):
                self.assertEqual(form(0, f)[-1] % form(0, g)[-1], 0)
                with self.assertRaises(NoOver):
                    polys.divided(Wholes(), f, g)

    def test_the_same_list_twice(self):
        for name, kind, prime, size in kinds():
            for f in ([1, 2, 3, 1], [1], [0, 1, 0], [5, -1]):
                with self.subTest(name, f=f):
                    self.assert_pair(polys.divided(kind, f, f), [1], [])


if __name__ == "__main__":
    unittest.main()
