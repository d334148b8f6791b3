"""Points 18 to 20 and the interface of factorforge/tables.py."""

import itertools
import random
import unittest

from factorforge.kinds import Rests
from factorforge.tables import echelon, kernel, product
from reckoning import LONG, lies_in, rank_of, some_numbers, table_product, units

PRIMES = (2, 3, 7, 9973)
SHAPES = ((1, 1), (1, 2), (2, 1), (1, 24), (24, 1), (2, 2), (2, 3), (3, 2), (4, 4), (5, 9), (9, 5), (12, 12), (24, 3))


def some_table(source, prime, height, width):
    return [some_numbers(source, prime, width) for k in range(height)]


def special_tables(prime):
    """Tables with rows of noughts, alike rows, columns of noughts, and rows that only look other than noughts."""
    return [
        [[0]], [[1]], [[-1]], [[prime]], [[0, 0, 0]], [[0], [0]], [[0], [5], [0]], [[0, 0], [0, 0], [0, 0]],
        [[1, 2], [1, 2]], [[1, 2], [2, 4], [3, 6]], [[0, 0, 1], [0, 1, 0], [1, 0, 0]], [[0, 1], [0, 1], [0, 0]],
        [[0, 0, 3, 1], [0, 0, 0, 0], [0, 0, 3, 2]], [[prime, 1], [2 * prime, -1]], [[1, prime], [1 - prime, 0]],
        [[0, 0], [1, 1]], [[1, 1, 1], [1, 1, 1], [1, 1, 2]], [[LONG, -LONG], [-LONG, LONG]],
    ]


def low_rank(source, prime, height, width, rank):
    return table_product(prime, some_table(source, prime, height, rank), some_table(source, prime, rank, width))


def all_tables(seed):
    """(prime, table) of all shapes."""
    source = random.Random(seed)
    for prime in PRIMES:
        yield from ((prime, rows) for rows in special_tables(prime))
        for height, width in SHAPES + ((24, 24), (3, 24)):
            yield prime, some_table(source, prime, height, width)
            yield prime, [[0] * width for k in range(height)]
            for rank in (1, 2, min(height, width)):
                yield prime, low_rank(source, prime, height, width, rank)


class TablesCase(unittest.TestCase):
    def assert_table(self, prime, told, height, width):
        self.assertIs(told.__class__, list)
        self.assertEqual(len(told), height)
        for row in told:
            self.assertIs(row.__class__, list)
            self.assertEqual(len(row), width)
            self.assertTrue(lies_in(prime, row), row)


class TestProduct(TablesCase):
    def test_written_out(self):
        self.assertEqual(product(Rests(7), [[1, 2], [3, 4]], [[5, 6], [0, 1]]), [[5, 1], [1, 1]])
        self.assertEqual(product(Rests(5), [[1, 2, 3]], [[1], [1], [1]]), [[1]])
        self.assertEqual(product(Rests(5), [[1], [2]], [[3, 4]]), [[3, 4], [1, 3]])

    def test_shapes(self):
        source = random.Random(61)
        for prime in PRIMES:
            for height, middle in SHAPES:
                for width in (1, 2, 5, 24):
                    ones = some_table(source, prime, height, middle)
                    others = some_table(source, prime, middle, width)
                    with self.subTest(prime=prime, ones=ones, others=others):
                        told = product(Rests(prime), ones, others)
                        self.assert_table(prime, told, height, width)
                        self.assertEqual(told, table_product(prime, ones, others))

    def test_ones_without_rows(self):
        for prime in PRIMES:
            for others in ([[1]], [[1, 2, 3]], [[0, 0], [1, 1]]):
                self.assertEqual(product(Rests(prime), [], others), [])

    def test_numbers_not_brought_to_the_kind(self):
        for prime in PRIMES:
            told = product(Rests(prime), [[prime + 1, -1]], [[-1, LONG], [5 * prime, 1 - prime]])
            self.assertEqual(told, [[prime - 1, (LONG - 1) % prime]])


class TestEchelon(TablesCase):
    def assert_form(self, form):
        """Rows of noughts last; of the others the first number is 1, alone in its column and farther right each time."""
        before = -1
        for at, row in enumerate(form):
            places = [k for k, number in enumerate(row) if number != 0]
            if not places:
                self.assertFalse(any(map(any, form[at:])))
                return
            self.assertGreater(places[0], before)
            self.assertEqual([other[places[0]] for other in form], [int(k == at) for k in range(len(form))])
            before = places[0]

    def test_what_is_promised(self):
        for prime, rows in all_tables(62):
            with self.subTest(prime=prime, rows=rows):
                told = echelon(Rests(prime), rows)
                self.assertIs(told.__class__, tuple)
                form, turn, back = told
                self.assert_table(prime, form, len(rows), len(rows[0]))
                self.assert_table(prime, turn, len(rows), len(rows))
                self.assert_table(prime, back, len(rows), len(rows))
                self.assertEqual(table_product(prime, turn, rows), form)
                self.assertEqual(table_product(prime, turn, back), units(len(rows)))
                self.assertEqual(table_product(prime, back, turn), units(len(rows)))
                self.assert_form(form)

    def test_forms_written_out(self):
        for prime, rows, form in (
            (7, [[2, 4], [1, 3]], [[1, 0], [0, 1]]), (7, [[2, 4], [1, 2]], [[1, 2], [0, 0]]),
            (5, [[0, 0, 2, 1], [0, 3, 0, 1]], [[0, 1, 0, 2], [0, 0, 1, 3]]), (2, [[0, 1], [1, 0]], [[1, 0], [0, 1]]),
            (3, [[0], [2], [1]], [[1], [0], [0]]), (3, [[0, 0]], [[0, 0]]), (9973, [[-1]], [[1]]), (3, [[3]], [[0]]),
        ):
            with self.subTest(prime=prime, rows=rows):
                self.assertEqual(echelon(Rests(prime), rows)[0], form)

    def test_one_form_whatever_is_done_to_the_rows(self):
        source = random.Random(63)
        for prime in PRIMES:
            for trial in range(20):
                rows = some_table(source, prime, 4, 6)
                other = [[a + 3 * b for a, b in zip(rows[0], rows[1])], rows[3], rows[2], [-a for a in rows[1]]]
                self.assertEqual(echelon(Rests(prime), rows)[0], echelon(Rests(prime), other)[0])

    def test_the_empty_table(self):
        for prime in PRIMES:
            self.assertEqual(echelon(Rests(prime), []), ([], [], []))


class TestKernel(TablesCase):
    def test_what_is_promised(self):
        for prime, rows in all_tables(64):
            with self.subTest(prime=prime, rows=rows):
                told = kernel(Rests(prime), rows)
                count = len(rows) - rank_of(prime, rows)
                self.assert_table(prime, told, count, len(rows))
                self.assertEqual(rank_of(prime, told), count)
                form = echelon(Rests(prime), rows)[0]
                self.assertEqual(count, len([row for row in form if not any(row)]))
                for row in table_product(prime, told, rows):
                    self.assertFalse(any(row))

    def test_each_row_with_the_property_is_a_sum_in_one_way(self):
        source = random.Random(65)
        for prime, height in ((2, 5), (3, 4)):
            for trial in range(20):
                rows = some_table(source, prime, height, 3)
                told = kernel(Rests(prime), rows)
                sums = sorted(
                    [sum(often * row[at] for often, row in zip(numbers, told)) % prime for at in range(height)]
                    for numbers in itertools.product(range(prime), repeat=len(told)))
                fitting = sorted(list(one) for one in itertools.product(range(prime), repeat=height)
                                 if not any(table_product(prime, [one], rows)[0]))
                self.assertEqual(sums, fitting)

    def test_the_empty_table(self):
        for prime in PRIMES:
            self.assertEqual(kernel(Rests(prime), []), [])

    def test_a_table_of_noughts(self):
        for prime in PRIMES:
            for height in (1, 2, 24):
                told = kernel(Rests(prime), [[0, prime, -prime]] * height)
                self.assert_table(prime, told, height, height)
                self.assertEqual(rank_of(prime, told), height)

    def test_nothing_makes_noughts(self):
        for prime in PRIMES:
            self.assertEqual(kernel(Rests(prime), [[1]]), [])
            self.assertEqual(kernel(Rests(prime), units(24)), [])


if __name__ == "__main__":
    unittest.main()
