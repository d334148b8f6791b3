"""Points 5 to 8 and the interface of factorforge/kinds.py."""

import math
import unittest

from factorforge.errors import ForgeError, NoOver, NoPower, NoPrime
from factorforge.kinds import Kind, Powers, Rests, Wholes, is_prime, turned

LONG = 314159265358979323846264338327950288419716939937510582097494
OTHER_LONG = 271828182845904523536028747135266249775724709369995957496697

SMALL_PRIMES = [2, 3, 5, 7, 11, 13]
RESTS_PRIMES = SMALL_PRIMES + [97, 101, 9967, 9973]
POWERS = [
    (2, 1), (2, 2), (2, 10), (2, 400), (3, 1), (3, 4), (3, 400), (5, 3), (7, 2),
    (101, 7), (9973, 1), (9973, 2), (9973, 399), (9973, 400),
]

# No primes of point 7: below 2, squares, products, pseudoprimes, and primes beyond 9973.
NO_PRIMES = [
    -9973, -7, -3, -2, -1, 0, 1, 4, 6, 8, 9, 15, 25, 49, 121, 169, 341, 561, 1105, 1729, 2047, 2465, 2821,
    3277, 4033, 4681, 6601, 8321, 8911, 9409, 9797, 9971, 9972, 9974, 9975, 9979, 9991, 9999, 10000, 10007,
    10009, 10201, 65537, 9973 * 9973, 9973 * 2, 2 ** 31 - 1, 2 ** 61 - 1, 2 ** 127 - 1, LONG, -LONG, 10 ** 2999,
]


def rest_kinds():
    """Rests and Powers as (name, kind, prime, size), the size reckoned here."""
    kinds = [(f"Rests({p})", Rests(p), p, p) for p in RESTS_PRIMES]
    return kinds + [(f"Powers({p}, {many})", Powers(p, many), p, p ** many) for p, many in POWERS]


def all_kinds():
    return [("Wholes()", Wholes(), 0, 0)] + rest_kinds()


def brought(size, number):
    return number % size if size else number


def numbers_beside(size):
    numbers = [0, 1, -1, 2, -2, 3, -7, 10, 9973, -9973, LONG, -LONG, OTHER_LONG, -OTHER_LONG]
    for often in (1, -1, 2, -3, 10 ** 20):
        numbers += [often * size - 1, often * size, often * size + 1]
    return numbers


class KindsCase(unittest.TestCase):
    def assert_number(self, told, expected):
        self.assertIs(told.__class__, int)
        self.assertEqual(told, expected)


class TestFields(KindsCase):
    def test_size(self):
        for name, kind, prime, size in all_kinds():
            with self.subTest(name):
                self.assert_number(kind.size, size)

    def test_prime_of_powers(self):
        for prime, many in POWERS:
            self.assert_number(Powers(prime, many).prime, prime)

    def test_all_are_kinds(self):
        for name, kind, prime, size in all_kinds():
            with self.subTest(name):
                self.assertIsInstance(kind, Kind)

    def test_kinds_made_later_change_none_made_before(self):
        wholes, rests, powers = Wholes(), Rests(5), Powers(3, 2)
        Rests(7), Powers(2, 5), Wholes(), Rests(2), Powers(5, 1)
        self.assertEqual((wholes.size, rests.size, powers.size, powers.prime), (0, 5, 9, 3))
        self.assertEqual((wholes.plain(-13), rests.plain(-13), powers.plain(-13)), (-13, 2, 5))
        self.assertEqual((rests.over(1, 3), powers.over(1, 2)), (2, 5))

    def test_a_refused_kind_changes_none_made_before(self):
        powers = Powers(3, 2)
        for prime, many in ((4, 1), (3, 0), (3, 401)):
            with self.assertRaises(ForgeError):
                Powers(prime, many)
        self.assertEqual((powers.size, powers.prime, powers.times(4, 7)), (9, 3, 1))


class TestPlain(KindsCase):
    def test_wholes_stand_for_themselves(self):
        for number in numbers_beside(12):
            self.assert_number(Wholes().plain(number), number)

    def test_rests(self):
        for name, kind, prime, size in rest_kinds():
            for number in numbers_beside(size):
                with self.subTest(name, number=number):
                    self.assert_number(kind.plain(number), number % size)
                    self.assertTrue(0 <= kind.plain(number) < size)

    def test_written_out(self):
        self.assertEqual([Rests(3).plain(n) for n in range(-4, 5)], [2, 0, 1, 2, 0, 1, 2, 0, 1])
        self.assertEqual([Powers(2, 2).plain(n) for n in range(-5, 6)], [3, 0, 1, 2, 3, 0, 1, 2, 3, 0, 1])
        self.assertEqual(Rests(9973).plain(-1), 9972)
        self.assertEqual(Powers(9973, 2).plain(-1), 99460728)

    def test_plain_of_what_was_told_is_the_same(self):
        for name, kind, prime, size in all_kinds():
            for number in numbers_beside(size):
                once = kind.plain(number)
                self.assertEqual(kind.plain(once), once, name)


class TestReckoning(KindsCase):
    def test_plus_less_times(self):
        for name, kind, prime, size in all_kinds():
            numbers = numbers_beside(size)
            for a in numbers:
                for b in numbers:
                    with self.subTest(name, a=a, b=b):
                        self.assert_number(kind.plus(a, b), brought(size, a + b))
                        self.assert_number(kind.less(a, b), brought(size, a - b))
                        self.assert_number(kind.times(a, b), brought(size, a * b))

    def test_written_out(self):
        self.assertEqual((Wholes().plus(3, 5), Wholes().less(3, 5), Wholes().times(-3, 5)), (8, -2, -15))
        self.assertEqual((Rests(7).plus(3, 5), Rests(7).less(3, 5), Rests(7).times(3, 5)), (1, 5, 1))
        powers = Powers(2, 3)
        self.assertEqual((powers.plus(3, 5), powers.less(3, 5), powers.times(3, 5)), (0, 6, 7))
        self.assertEqual(powers.times(2, 4), 0)


class TestOver(KindsCase):
    def test_wholes(self):
        for a, b, c in ((6, 3, 2), (-6, 3, -2), (6, -3, -2), (-6, -3, 2), (0, 5, 0), (0, -5, 0), (5, 1, 5),
                        (5, -1, -5), (LONG * OTHER_LONG, LONG, OTHER_LONG), (-LONG, LONG, -1)):
            with self.subTest(a=a, b=b):
                self.assert_number(Wholes().over(a, b), c)

    def test_wholes_refused(self):
        for a, b in ((0, 0), (5, 0), (-5, 0), (LONG, 0), (7, 2), (-7, 2), (7, -2), (-7, -2), (1, 2), (2, 4),
                     (-1, 2), (LONG, OTHER_LONG), (LONG * OTHER_LONG + 1, LONG), (3, LONG)):
            with self.subTest(a=a, b=b), self.assertRaises(NoOver):
                Wholes().over(a, b)

    def test_wholes_all_small(self):
        for a in range(-30, 31):
            for b in range(-12, 13):
                with self.subTest(a=a, b=b):
                    fitting = [c for c in range(-30, 31) if b != 0 and c * b == a]
                    if fitting:
                        self.assert_number(Wholes().over(a, b), fitting[0])
                    else:
                        with self.assertRaises(NoOver):
                            Wholes().over(a, b)

    def test_rests_and_powers(self):
        for name, kind, prime, size in rest_kinds():
            numbers = numbers_beside(size)
            for b in [b for b in numbers if b % prime != 0]:
                for a in numbers:
                    with self.subTest(name, a=a, b=b):
                        c = kind.over(a, b)
                        self.assertIs(c.__class__, int)
                        self.assertTrue(0 <= c < size)
                        self.assertEqual((c * b - a) % size, 0)

    def test_refused_where_the_prime_goes_into_b(self):
        for name, kind, prime, size in rest_kinds():
            for b in (0, prime, -prime, 2 * prime, size, -size, 5 * size, size + prime, prime * LONG):
                for a in (0, 1, -1, prime, 2 * prime, size, size - 1, b, prime * b, LONG):
                    with self.subTest(name, a=a, b=b), self.assertRaises(NoOver):
                        kind.over(a, b)

    def test_refused_though_some_c_would_do(self):
        for a, b in ((6, 3), (3, 6), (0, 3), (0, 0), (3, 3), (6, 12), (-3, 3), (9, 3)):
            with self.subTest(a=a, b=b), self.assertRaises(NoOver):
                Powers(3, 2).over(a, b)
        with self.assertRaises(NoOver):
            Rests(5).over(0, 0)
        with self.assertRaises(NoOver):
            Rests(5).over(10, 5)

    def test_all_of_small_kinds(self):
        kinds = [(Rests(2), 2, 2), (Rests(5), 5, 5), (Powers(2, 1), 2, 2), (Powers(2, 4), 2, 16), (Powers(3, 2), 3, 9)]
        for kind, prime, size in kinds:
            for a in range(-size, 2 * size):
                for b in range(-size, 2 * size):
                    with self.subTest(size=size, a=a, b=b):
                        if b % prime == 0:
                            with self.assertRaises(NoOver):
                                kind.over(a, b)
                        else:
                            fitting = [c for c in range(size) if (c * b - a) % size == 0]
                            self.assertEqual([kind.over(a, b)], fitting)


class TestRefusedKinds(KindsCase):
    def test_rests_by_no_prime(self):
        for number in NO_PRIMES:
            with self.subTest(number=number), self.assertRaises(NoPrime):
                Rests(number)

    def test_powers_of_no_prime(self):
        for number in NO_PRIMES:
            for many in (1, 2, 400):
                with self.subTest(number=number, many=many), self.assertRaises(NoPrime):
                    Powers(number, many)

    def test_powers_by_no_many(self):
        for prime in (2, 3, 97, 9973):
            for many in (0, -1, -2, -400, 401, 402, 1000, LONG, -LONG):
                with self.subTest(prime=prime, many=many), self.assertRaises(NoPower):
                    Powers(prime, many)

    def test_no_prime_comes_first(self):
        for number in NO_PRIMES:
            for many in (0, -1, 401, LONG):
                with self.subTest(number=number, many=many), self.assertRaises(NoPrime):
                    Powers(number, many)

    def test_the_edges_are_taken(self):
        for prime in (2, 9973):
            self.assertEqual(Rests(prime).size, prime)
            for many in (1, 2, 399, 400):
                self.assertEqual(Powers(prime, many).size, prime ** many)


class TestTurned(KindsCase):
    def assert_turned(self, number, size):
        c = turned(number, size)
        self.assertIs(c.__class__, int)
        self.assertTrue(0 <= c < size)
        self.assertEqual(c * number % size, 1)

    def test_small_sizes(self):
        for size in range(2, 61):
            for number in range(-2 * size - 3, 3 * size + 4):
                with self.subTest(number=number, size=size):
                    if math.gcd(number, size) == 1:
                        self.assert_turned(number, size)
                    else:
                        with self.assertRaises(NoOver):
                            turned(number, size)

    def test_long_sizes(self):
        for size in (9973, 10 ** 20, 2 ** 199, 3 ** 125, LONG, OTHER_LONG, 10 ** 59, 10 ** 60 - 1, 9973 ** 400):
            for number in numbers_beside(size) + [size // 2, size // 3, size - 2, 7 * size + 5]:
                with self.subTest(number=number, size=size):
                    if math.gcd(number, size) == 1:
                        self.assert_turned(number, size)
                    else:
                        with self.assertRaises(NoOver):
                            turned(number, size)

    def test_written_out(self):
        self.assertEqual(turned(1, 2), 1)
        self.assertEqual(turned(-1, 2), 1)
        self.assertEqual(turned(3, 7), 5)
        self.assertEqual(turned(-3, 7), 2)
        self.assertEqual(turned(10, 7), 5)
        self.assertEqual(turned(7, 30), 13)

    def test_refused(self):
        for number, size in ((0, 2), (0, LONG), (2, 4), (4, 2), (6, 9), (-6, 9), (10, 15), (9, 9), (LONG, LONG)):
            with self.subTest(number=number, size=size), self.assertRaises(NoOver):
                turned(number, size)


class TestIsPrime(KindsCase):
    def test_all_from_below_nought_to_above_9973(self):
        sieve = [n > 1 and all(n % d for d in range(2, math.isqrt(n) + 1)) for n in range(9974)]
        for number in range(-200, 11000):
            with self.subTest(number=number):
                self.assertIs(is_prime(number), 0 <= number < 9974 and sieve[number])

    def test_no_primes(self):
        for number in NO_PRIMES:
            with self.subTest(number=number):
                self.assertIs(is_prime(number), False)

    def test_squares_of_primes(self):
        for prime in RESTS_PRIMES + [89, 83, 31]:
            self.assertIs(is_prime(prime), True)
            self.assertIs(is_prime(prime * prime), False)


if __name__ == "__main__":
    unittest.main()
