"""Point 34 and the interface of factorforge/forge.py."""

import random
import unittest

from cases import PolysCase
from factorforge.errors import Nought
from factorforge.forge import told, whole_parts
from factorforge.wholepapers import whole_holds
from known import WITHOUT_PARTS
from reckoning import LONG, form, order_key, product_of_pairs, whole_paper_is_good

SIXTY = 10 ** 60


def degree_of(pairs):
    return sum((len(g) - 1) * e for g, e in pairs)


def in_order(pairs):
    return sorted(pairs, key=lambda pair: order_key(pair[0]))


class TestForge(PolysCase):
    def assert_parts(self, f, content, pairs):
        """That both functions tell the content and the pairs, and told a good paper with each."""
        with self.subTest(f=f):
            answer = whole_parts(f)
            self.assertIs(answer.__class__, tuple)
            self.assertEqual(len(answer), 2)
            self.assertIs(answer[0].__class__, int)
            self.assert_pairs(0, answer[1])
            self.assertEqual(answer, (content, pairs))
            self.assertEqual(product_of_pairs(0, answer[0], answer[1]), form(0, f))
            self.assert_told(f, content, pairs)

    def assert_told(self, f, content, pairs):
        answer = told(f)
        self.assertIs(answer.__class__, tuple)
        self.assertEqual(len(answer), 2)
        self.assertIs(answer[0].__class__, int)
        self.assertIs(answer[1].__class__, list)
        self.assertTrue(all(triple.__class__ is tuple and len(triple) == 3 for triple in answer[1]))
        self.assertEqual((answer[0], [(g, e) for g, e, paper in answer[1]]), (content, pairs))
        for g, e, paper in answer[1]:
            self.assertIs(whole_holds(g, paper), True)
            self.assertTrue(whole_paper_is_good(g, paper))

    def test_written_out(self):
        self.assert_parts([-1, 0, 1], 1, [([-1, 1], 1), ([1, 1], 1)])
        self.assert_parts([2, 4, 2], 2, [([1, 1], 2)])
        self.assert_parts([6, 0, -6], -6, [([-1, 1], 1), ([1, 1], 1)])
        self.assert_parts([1, 0, 0, 0, 1], 1, [([1, 0, 0, 0, 1], 1)])
        self.assert_parts([4, 0, 0, 0, 1], 1, [([2, -2, 1], 1), ([2, 2, 1], 1)])
        self.assert_parts([0, 0, -12], -12, [([0, 1], 2)])

    def test_without_x(self):
        for number in (1, -1, 12, -12, SIXTY - 1, 1 - SIXTY):
            self.assert_parts([number], number, [])
            self.assert_parts([number, 0, 0], number, [])

    def test_nought(self):
        for f in ([], [0], [0, 0, 0]):
            for function in (whole_parts, told):
                with self.subTest(f=f, function=function), self.assertRaises(Nought):
                    function(f)

    def test_the_content_is_never_parted(self):
        for content in (2, -2, 12, -30, 9973 * 9967, LONG):
            pairs = [([-3, 2], 1), ([1, 0, 1], 2)]
            self.assert_parts(product_of_pairs(0, content, pairs), content, pairs)

    def test_signs(self):
        # x - 1 and 1 - x are told as one part, and the sign goes to the content.
        self.assert_parts(product_of_pairs(0, 1, [([-1, 1], 1), ([1, -1], 1)]), -1, [([-1, 1], 2)])
        self.assert_parts(product_of_pairs(0, -1, [([1, -1], 3)]), 1, [([-1, 1], 3)])
        self.assert_parts(product_of_pairs(0, 1, [([-2, 0, -1], 2), ([2, 0, 1], 1)]), 1, [([2, 0, 1], 3)])
        self.assert_parts([1, -1], -1, [([-1, 1], 1)])
        self.assert_parts(product_of_pairs(0, 1, [([2, 4], 1), ([-3, -6], 1)]), -6, [([1, 2], 2)])

    def test_parts_more_than_once(self):
        for g in ([0, 1], [1, 1], [-3, 2], [1, 0, 1], [5, -4, 3], [1, 0, 0, 0, 1], [1, 1, 1, 1, 1, 1, 1]):
            for e in range(1, 12 // (len(g) - 1) + 1):
                self.assert_parts(product_of_pairs(0, 1, [(g, e)]), 1, [(g, e)])
        pairs = [([-2, 1], 1), ([0, 1], 2), ([1, 1], 3), ([1, 0, 1], 3)]
        self.assert_parts(product_of_pairs(0, -5, pairs), -5, pairs)

    def test_parts_alike_but_for_a_sign(self):
        pairs = [([-1, 1], 2), ([1, 1], 1), ([-2, 0, 1], 1), ([2, 0, 1], 1), ([-1, -1, 0, 1], 1)]
        self.assert_parts(product_of_pairs(0, 1, pairs), 1, pairs)

    def test_the_order(self):
        # By length, then by the whole number itself at the least power that differs, however long or below nought.
        pairs = [([-10, 1], 1), ([-9, 2], 1), ([-2, 1], 1), ([-1, 9], 1), ([1, 1], 1), ([1, 2], 1), ([3, 1], 1)]
        self.assertEqual(pairs, in_order(pairs))
        self.assert_parts(product_of_pairs(0, 1, pairs), 1, pairs)
        pairs = [([1, -3, 1], 1), ([1, -1, 2], 1), ([1, 0, 1], 1), ([1, 1, 1], 1), ([2, -2, 1], 1), ([2, 0, 1], 1)]
        self.assertEqual(pairs, in_order(pairs))
        self.assert_parts(product_of_pairs(0, 1, pairs), 1, pairs)

    def test_each_without_parts(self):
        for g in WITHOUT_PARTS[:-1]:
            self.assert_parts(g, 1, [(g, 1)])
            self.assert_parts([-3 * number for number in g] + [0], -3, [(g, 1)])

    def test_products_of_known_parts(self):
        source = random.Random(141)
        for trial in range(60):
            pairs = []
            for g in source.sample(WITHOUT_PARTS[:-1], len(WITHOUT_PARTS) - 1):
                pair = (g, source.choice([1, 1, 1, 2, 3]))
                if degree_of(pairs + [pair]) <= 12:
                    pairs.append(pair)
            content = source.choice([1, -1, 2, -7, 10 ** 30])
            self.assert_parts(product_of_pairs(0, content, pairs), content, in_order(pairs))

    def test_degree_twelve(self):
        pairs = [([-1, 1], 1), ([1, 1], 1), ([1, -1, 1], 1), ([1, 0, 1], 1), ([1, 1, 1], 1), ([1, 0, -1, 0, 1], 1)]
        self.assert_parts([-1] + [0] * 11 + [1], 1, pairs)
        pairs = [([number, 1], 1) for number in range(-6, 6)]
        self.assert_parts(product_of_pairs(0, 1, pairs), 1, pairs)
        pairs = [([-number, 0, 1], 1) for number in (10, 7, 6, 5, 3, 2)]
        self.assert_parts(product_of_pairs(0, 1, pairs), 1, pairs)
        self.assert_parts([-1] + [0] * 12, -1, [])
        self.assert_parts([0] * 12 + [7], 7, [([0, 1], 12)])

    def test_numbers_of_sixty_figures(self):
        long = 10 ** 29 + 1
        pairs = [([-long, 3], 1), ([long, 0, 1], 1)]
        self.assert_parts(product_of_pairs(0, 1, pairs), 1, pairs)
        # By 2: all numbers but the lead are even, the first is no multiple of four.
        one = [SIXTY - 2] + [2 * k for k in range(11)] + [SIXTY - 1]
        self.assert_parts(one, 1, [(one, 1)])
        one = [10 ** 28 + 2, 4 * 10 ** 27, 6, 10 ** 28 - 8, 2, 0, 10 ** 28 + 7]
        other = [-10 ** 29 + 2, 10 ** 28, -2, 6, 10 ** 27, 8, 3]
        pairs = [(other, 1), (one, 1)]
        f = product_of_pairs(0, 1, pairs)
        self.assertLess(max(map(abs, f)), SIXTY)
        self.assertGreater(max(map(abs, f)), SIXTY // 1000)
        self.assert_parts(f, 1, pairs)
        pairs = [([10 ** 4 * number + 1, number], 1) for number in range(1, 13)]
        f = product_of_pairs(0, 1, pairs)
        self.assertLess(max(map(abs, f)), SIXTY)
        self.assert_parts(f, 1, in_order(pairs))

    def test_a_long_content(self):
        self.assert_parts([1 - SIXTY, 0, SIXTY - 1], SIXTY - 1, [([-1, 1], 1), ([1, 1], 1)])


if __name__ == "__main__":
    unittest.main()
