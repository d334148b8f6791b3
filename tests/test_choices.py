"""Point 30 and the interface of factorforge/choices.py."""

import random
import unittest
from math import comb

from cases import PolysCase
from factorforge.choices import candidate, sets
from reckoning import LONG, candidate_of, disguised, set_list


class TestSets(unittest.TestCase):
    def test_written_out(self):
        self.assertEqual(sets(0), [])
        self.assertEqual(sets(1), [])
        self.assertEqual(sets(2), [1, 2])
        self.assertEqual(sets(3), [1, 2, 4])
        self.assertEqual(sets(4), [1, 2, 4, 8, 3, 5, 6, 9, 10, 12])

    def test_each_count(self):
        for count in range(13):
            with self.subTest(count=count):
                told = sets(count)
                self.assertIs(told.__class__, list)
                self.assertTrue(all(bits.__class__ is int for bits in told))
                self.assertEqual(told, set_list(count))

    def test_each_set_once_and_in_order(self):
        for count in range(13):
            told = sets(count)
            self.assertEqual(len(told), len(set(told)))
            self.assertEqual(len(told), sum(comb(count, places) for places in range(1, count // 2 + 1)))
            self.assertEqual(told, sorted(told, key=lambda bits: (bin(bits).count("1"), bits)))
            self.assertTrue(all(0 < bits < 2 ** count and 2 * bin(bits).count("1") <= count for bits in told))


class TestCandidate(PolysCase):
    def assert_candidate(self, g, size, ups, bits, expected):
        with self.subTest(g=g, size=size, ups=ups, bits=bits):
            self.assert_poly(candidate(g, size, ups, bits), expected)

    def test_written_out(self):
        self.assert_candidate([1, 0, 1], 25, [[7, 1], [18, 1]], 1, [7, 1])
        self.assert_candidate([1, 0, 1], 25, [[7, 1], [18, 1]], 2, [-7, 1])
        self.assert_candidate([1, 0, 1], 25, [[7, 1], [18, 1]], 3, [1, 0, 1])
        self.assert_candidate([5, 3], 100, [[33, 1]], 1, [-1, 3])

    def test_the_lead_alone(self):
        for ups in ([], [[1, 1]], [[2, 1], [3, 0, 1]]):
            self.assert_candidate([4, 7], 100, ups, 0, [7])
            self.assert_candidate([4, -7, 0], 100, ups, 0, [-7])
            self.assert_candidate([4, 7], 10, ups, 0, [-3])
            self.assert_candidate([4, 7], 7, ups, 0, [])
            self.assert_candidate([51], 100, ups, 0, [-49])

    def test_one_place(self):
        ups = [[number, 1] for number in range(12)]
        for at in range(12):
            self.assert_candidate([0, 1], 1000, ups, 2 ** at, [at, 1])
            self.assert_candidate([0, -2], 1000, ups, 2 ** at, [-2 * at, -2])

    def test_half_of_the_size(self):
        for size in (4, 10, 100, 2 ** 20, 10 ** 60):
            half = size // 2
            for number, expected in ((half, half), (-half, half), (half + 1, 1 - half), (half - 1, half - 1),
                                     (-half + 1, 1 - half), (-half - 1, half - 1), (half + size, half),
                                     (half - 5 * size, half), (size, 0), (0, 0), (size - 1, -1), (-1, -1)):
                self.assert_candidate([1], size, [[number, 1]], 1, [expected, 1])
        for size in (3, 5, 9, 101, 3 ** 40):
            half = size // 2
            for number, expected in ((half, half), (-half, -half), (half + 1, -half), (-half - 1, half),
                                     (half + size, half), (half + 1 - 7 * size, -half), (size, 0), (size + 1, 1)):
                self.assert_candidate([1], size, [[number, 0, 1]], 1, [expected, 0, 1])

    def test_the_size_two(self):
        self.assert_candidate([1], 2, [[1, 1]], 1, [1, 1])
        self.assert_candidate([-1], 2, [[3, 1]], 1, [1, 1])
        self.assert_candidate([1], 2, [[2, -1, 1]], 1, [0, 1, 1])
        self.assert_candidate([2], 2, [[1, 1]], 1, [])
        self.assert_candidate([3], 2, [[1, 1], [1, 1]], 3, [1, 0, 1])

    def test_leads_that_vanish(self):
        self.assert_candidate([1, 6], 6, [[1, 1]], 1, [])
        self.assert_candidate([1, 3], 6, [[1, 2]], 1, [3])
        self.assert_candidate([1, 1], 6, [[1, 3], [1, 2]], 3, [1, -1])

    def test_many(self):
        source = random.Random(121)
        for trial in range(400):
            size = source.choice([2, 3, 4, 6, 9, 10, 3 ** 10, 5 ** 60, LONG, 2 ** 200])
            ups = [[source.randrange(size) for k in range(source.randrange(1, 3))] + [1]
                   for k in range(source.randrange(1, 13))]
            g = [source.randrange(-50, 50) for k in range(source.randrange(5))] + [source.choice([1, -1, 6, -LONG])]
            for bits in (0, 1, source.randrange(2 ** len(ups)), 2 ** len(ups) - 1):
                given = [disguised(source, size, up) for up in ups]
                self.assert_candidate(g + [0] * source.randrange(2), size, given, bits,
                                      candidate_of(g, size, ups, bits))


if __name__ == "__main__":
    unittest.main()
