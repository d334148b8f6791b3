"""Points 35 to 37 and the interface of factorforge/desk.py."""

import random
import unittest

from cases import PolysCase
from factorforge.desk import asked, multiplied, product_read, product_shown
from factorforge.errors import BadAsk, BadProduct, BadText, ForgeError, NoPrime, Nought
from reckoning import form, product_of_pairs

HUNDRED = 10 ** 100 - 1
PAIR = ([-1, 1], 2)


def some_pairs(source):
    found = []
    for k in range(source.randrange(0, 25)):
        g = [source.choice([0, 1, -1, source.randrange(-999, 1000), HUNDRED]) for k in range(source.randrange(0, 42))]
        found.append((g, source.choice([1, 1, 2, 3, 10, 39, 40])))
    return found


class TestProductShown(PolysCase):
    def assert_shown(self, content, pairs, text):
        told = product_shown(content, pairs)
        self.assertIs(told.__class__, str)
        self.assertEqual(told, text)

    def test_the_example(self):
        self.assert_shown(-2, [([-1, 1], 2), ([1, 1], 1)], "-2 * (x - 1)^2 * (x + 1)")

    def test_contents(self):
        for content in (0, 1, -1, 7, -7, HUNDRED, -HUNDRED):
            self.assert_shown(content, [], str(content))
            self.assert_shown(content, [PAIR], f"{content} * (x - 1)^2")

    def test_polynomials(self):
        self.assert_shown(1, [([], 1), ([0, 0], 2)], "1 * (0) * (0)^2")
        self.assert_shown(1, [([5], 1), ([-5], 3), ([1, 0], 1), ([-1], 1)], "1 * (5) * (-5)^3 * (1) * (-1)")
        self.assert_shown(1, [([0, 1, 0], 1), ([7, -1, 3], 1)], "1 * (x) * (3x^2 - x + 7)")
        self.assert_shown(3, [([0] * 40 + [HUNDRED], 40)], f"3 * ({HUNDRED}x^40)^40")

    def test_how_often(self):
        for e in range(1, 41):
            self.assert_shown(1, [([0, 1], e)], "1 * (x)" + ("" if e == 1 else f"^{e}"))

    def test_order_and_alike_ones_stay(self):
        self.assert_shown(1, [([2, 1], 1), ([1, 1], 1), ([2, 1], 1)], "1 * (x + 2) * (x + 1) * (x + 2)")

    def test_twenty_four(self):
        self.assert_shown(1, [PAIR] * 24, "1" + " * (x - 1)^2" * 24)


class TestProductRead(PolysCase):
    def assert_read(self, text, content, pairs):
        with self.subTest(text[:200]):
            told = product_read(text)
            self.assertIs(told.__class__, tuple)
            self.assertEqual(len(told), 2)
            self.assertIs(told[0].__class__, int)
            self.assert_pairs(0, told[1])
            self.assertEqual(told, (content, pairs))
            self.assertEqual(product_shown(*told), text)

    def assert_refused(self, *texts):
        for text in texts:
            with self.subTest(text[:200]), self.assertRaises(BadProduct):
                product_read(text)

    def test_the_example(self):
        self.assert_read("-2 * (x - 1)^2 * (x + 1)", -2, [([-1, 1], 2), ([1, 1], 1)])

    def test_contents(self):
        for content in (0, 1, -1, 10, HUNDRED, -HUNDRED):
            self.assert_read(str(content), content, [])
            self.assert_read(f"{content} * (x - 1)^2", content, [PAIR])

    def test_polynomials(self):
        self.assert_read("1 * (0) * (0)^2", 1, [([], 1), ([], 2)])
        self.assert_read("1 * (5) * (-5)^3 * (1) * (-1)", 1, [([5], 1), ([-5], 3), ([1], 1), ([-1], 1)])
        self.assert_read(f"3 * (-{HUNDRED}x^40)^40", 3, [([0] * 40 + [-HUNDRED], 40)])

    def test_how_often(self):
        for e in range(2, 41):
            self.assert_read(f"1 * (x)^{e}", 1, [([0, 1], e)])

    def test_how_many_pairs(self):
        self.assert_read("1" + " * (x - 1)^2" * 24, 1, [PAIR] * 24)
        self.assert_refused("1" + " * (x - 1)^2" * 25, "0" + " * (0)" * 25, "1" + " * (x)" * 200)

    def test_what_is_shown_is_read_back(self):
        source = random.Random(151)
        for trial in range(60):
            content = source.choice([0, 1, -1, HUNDRED, -HUNDRED, source.randrange(-999, 999)])
            pairs = some_pairs(source)
            expected = [(form(0, g), e) for g, e in pairs]
            self.assert_read(product_shown(content, pairs), content, expected)

    def test_bad_powers(self):
        self.assert_refused(*[f"1 * (x){power}" for power in (
            "^1", "^0", "^41", "^02", "^", "^ 2", " ^2", "^-2", "^+2", "^2^2", "^100", "^400", "^00", "^2x", "2", "*2",
            "^2.", "^" + "9" * 5000, "^2 ", "^1_0", "x")])

    def test_bad_blanks(self):
        self.assert_refused(
            "1* (x)", "1 *(x)", "1  * (x)", "1 *  (x)", " 1 * (x)", "1 * (x) ", "1 * ( x)", "1 * (x )", "1*(x)", "1 ",
            " 1", "1 * (x)* (x)", "1 * (x) *(x)", "1 * (x)  * (x)", "1 * (x) * ", "1 * ", "1 *", "1 * (x -1)",
            "1 * (x - 1)^2  * (x)", "- 1", "1 * (x)(x)")

    def test_bad_brackets(self):
        self.assert_refused(
            "1 * x", "1 * (x", "1 * x)", "1 * ((x))", "1 * (x))", "1 * ()", "1 * (", "1 * )", "(1)", "(1) * (x)",
            "1 * [x]", "1 * {x)", "1 * (x)^(2)", "1 * (x)^2)", "1 * x^2", "1 * (x * x)", "1 * (x) * x", "1 * x)(")

    def test_bad_polynomials(self):
        self.assert_refused(*[f"1 * ({text})" for text in (
            "1x", "+x", "x^1", "x^0", "1 + x", "x+1", "x +1", "x + 0", "0x", "-0", "x + x", "x - x", "x^2 + x^2", " x",
            "x ", "- x", "x^41", "x^2 + 3x^2", "00", "01", "y", "X", "", "2x + 1x^2", "1" + "0" * 100, "x + -1", "x*2")])

    def test_bad_contents(self):
        self.assert_refused(*[content + behind for behind in ("", " * (x)") for content in (
            "", "+1", "-0", "00", "01", "-01", "1" + "0" * 100, "-1" + "0" * 100, "x", "--1", "1.0", "1_0", "-", "1e3",
            "9" * 4000, " 1", "0x1")])

    def test_signs_that_are_figures_elsewhere(self):
        self.assert_refused("\u0661", "\u00b2", "1 * (x)^\u0662", "1 * (\u0663x)")

    def test_each_text_one_sign_away(self):
        text = "-2 * (x - 1)^2 * (3x^2)^12"
        self.assert_read(text, -2, [([-1, 1], 2), ([0, 0, 3], 12)])
        for at in range(len(text) + 1):
            for sign in "0123456789x^+-*() .":
                for other in (text[:at] + sign + text[at:], text[:at] + sign + text[at + 1:], text[:at] + text[at + 1:]):
                    try:
                        content, pairs = product_read(other)
                    except BadProduct:
                        continue
                    self.assertEqual(product_shown(content, pairs), other)
                    self.assertTrue(all(1 <= e <= 40 for g, e in pairs))


class TestMultiplied(PolysCase):
    def test_written_out(self):
        self.assert_poly(multiplied(-2, [([-1, 1], 2), ([1, 1], 1)]), [-2, 2, 2, -2])
        self.assert_poly(multiplied(5, []), [5])
        self.assert_poly(multiplied(-1, [([3, 0, 1, 0], 1)]), [-3, 0, -1])
        self.assert_poly(multiplied(3, [([2], 3), ([-1], 1)]), [-24])

    def test_nought(self):
        self.assert_poly(multiplied(0, []), [])
        self.assert_poly(multiplied(0, [([1, 1], 2)]), [])
        self.assert_poly(multiplied(7, [([], 1)]), [])
        self.assert_poly(multiplied(7, [([1, 1], 2), ([0, 0], 40)]), [])

    def test_nought_among_the_longest(self):
        longest = [([HUNDRED] * 41, 40)] * 23
        self.assert_poly(multiplied(0, longest), [])
        self.assert_poly(multiplied(7, longest + [([0], 1)]), [])

    def test_many(self):
        source = random.Random(152)
        for trial in range(200):
            pairs = [([source.randrange(-9, 10) for k in range(source.randrange(1, 5))], source.randrange(1, 5))
                     for k in range(source.randrange(0, 6))]
            content = source.choice([1, -1, 6, 0, HUNDRED])
            self.assert_poly(multiplied(content, pairs), product_of_pairs(0, content, pairs))

    def test_degree_seventy_nine(self):
        self.assert_poly(multiplied(2, [([0, 1], 39), ([0, 1], 40)]), [0] * 79 + [2])
        pairs = [([1, 1], 40), ([0] * 39 + [-1], 1)]
        self.assert_poly(multiplied(1, pairs), product_of_pairs(0, 1, pairs))


class TestAsked(PolysCase):
    def assert_asked(self, line, text):
        with self.subTest(line):
            told = asked(line)
            self.assertIs(told.__class__, str)
            self.assertEqual(told, text)

    def test_parts(self):
        self.assert_asked("parts of x^2 - 1", "1 * (x - 1) * (x + 1)")
        self.assert_asked("parts of -6x^2 + 6", "-6 * (x - 1) * (x + 1)")
        self.assert_asked("parts of 12", "12")
        self.assert_asked("parts of -x", "-1 * (x)")
        self.assert_asked("parts of x^4 + 1", "1 * (x^4 + 1)")
        self.assert_asked("parts of x^12 + 2x^6 + 1", "1 * (x^2 + 1)^2 * (x^4 - x^2 + 1)^2")

    def test_parts_by(self):
        self.assert_asked("parts by 5 of x^2 + 1", "1 * (x + 2) * (x + 3)")
        self.assert_asked("parts by 2 of x^4 + 1", "1 * (x + 1)^4")
        self.assert_asked("parts by 7 of 3x^3", "3 * (x)^3")
        self.assert_asked("parts by 9973 of -x + 1", "9972 * (x + 9972)")
        self.assert_asked("parts by 3 of 5", "2")
        self.assert_asked("parts by 3 of 3x^2 + x", "1 * (x)")

    def test_common(self):
        self.assert_asked("common of x^2 - 1 and x^2 + 2x + 1", "x + 1")
        self.assert_asked("common of 6x + 6 and 4x + 4", "x + 1")
        self.assert_asked("common of x and x + 1", "1")
        self.assert_asked("common of 0 and 0", "0")
        self.assert_asked("common of 0 and -2x", "x")
        self.assert_asked("common of 7 and x - x", "1")

    def test_blanks_and_order(self):
        self.assert_asked("parts of   - 1+x^2  ", "1 * (x - 1) * (x + 1)")
        self.assert_asked("parts by 5 of  1 +x^2 ", "1 * (x + 2) * (x + 3)")
        self.assert_asked("common of   -1 + x^2   and   1+x  ", "x + 1")
        self.assert_asked("parts of x + x^2 - x - 1 + 0x^7", "1 * (x - 1) * (x + 1)")

    def test_long_numbers(self):
        long = 10 ** 59 + 1
        self.assert_asked(f"parts of {long}x^2 - {long}", f"{long} * (x - 1) * (x + 1)")
        self.assert_asked(f"parts by 2 of {long}x", "1 * (x)")


class TestAskedRefused(PolysCase):
    def assert_refused(self, refusal, line, place=None):
        with self.subTest(line):
            with self.assertRaises(ForgeError) as caught:
                asked(line)
            self.assertIs(caught.exception.__class__, refusal)
            if refusal is BadText:
                self.assertEqual(caught.exception.place, place)

    def test_bad_ask(self):
        for line in (
            "", " ", "x", "parts", "parts of", "parts  of x", " parts of x", "Parts of x", "part of x", "partsof x",
            "parts by", "parts by ", "parts by 5", "parts by 5 of", "parts by 5  of x", "parts by  5 of x",
            "parts by x of x", "parts by -5 of x", "parts by +5 of x", "parts by 5of x", "parts by  of x",
            "parts by of x", "parts by 5 x", "parts by 5.0 of x", "parts by 5_3 of x", "parts by 5 5 of x",
            "common", "common of", "common of ", "common of x", "common of x and", "common of and x", "common of x, x",
            "common of xand x", "common of x andx", "common of x  and", "common of x AND x", "Common of x and x",
            "common  of x and x", "common and x of x", "product of x and x", "parts to x", "parts by " + "1" * 61 + " of x",
            "parts by " + "0" * 61 + " of x", "parts by " + "2" * 500 + " of x",
        ):
            self.assert_refused(BadAsk, line)

    def test_no_prime(self):
        for number in ("0", "1", "4", "9", "00", "02", "05", "007", "09973", "9971", "9974", "10007", "1" * 60, "0" * 60):
            self.assert_refused(NoPrime, f"parts by {number} of x")

    def test_bad_text_for_f(self):
        self.assert_refused(BadText, "parts of ", 0)
        self.assert_refused(BadText, "parts of   ", 2)
        self.assert_refused(BadText, "parts of y", 0)
        self.assert_refused(BadText, "parts of x + ", 4)
        self.assert_refused(BadText, "parts of x^41", 3)
        self.assert_refused(BadText, "parts of by 5 of x", 0)
        self.assert_refused(BadText, "parts by 5 of ", 0)
        self.assert_refused(BadText, "parts by 5 of x*2", 1)
        self.assert_refused(BadText, "parts by 9973 of  x x", 3)
        self.assert_refused(BadText, "parts by 5 of 5 of x", 2)
        self.assert_refused(BadText, "common of x^ and x", 2)
        self.assert_refused(BadText, "common of  and x", 0)
        self.assert_refused(BadText, "common of   and x", 1)
        self.assert_refused(BadText, "common of xx and y", 1)

    def test_bad_text_for_g(self):
        self.assert_refused(BadText, "common of x and ", 0)
        self.assert_refused(BadText, "common of x and y", 0)
        self.assert_refused(BadText, "common of x + 1 and 05", 1)
        self.assert_refused(BadText, "common of x and x +", 3)
        self.assert_refused(BadText, "common of x and   ", 2)

    def test_and_more_than_once(self):
        self.assert_refused(BadText, "common of x and x and x", 2)
        self.assert_refused(BadText, "common of x and and x", 0)
        self.assert_refused(BadText, "common of  and  and x", 0)
        self.assert_refused(BadText, "common of x and  and x", 1)
        self.assert_refused(BadText, "parts of x and x", 2)

    def test_nought(self):
        for line in ("parts of 0", "parts of x - x", "parts of 0x^3", "parts by 5 of 0", "parts by 5 of 5x^2 - 10",
                     "parts by 2 of 2x + 4", "parts by 9973 of 9973x"):
            self.assert_refused(Nought, line)

    def test_two_at_once(self):
        self.assert_refused(BadAsk, "parts by 4 off y")
        self.assert_refused(BadAsk, "parts by 04 y")
        self.assert_refused(BadAsk, "common of y z")
        self.assert_refused(BadAsk, "parts by " + "4" * 61 + " of y")
        self.assert_refused(NoPrime, "parts by 4 of y")
        self.assert_refused(NoPrime, "parts by 05 of ")
        self.assert_refused(NoPrime, "parts by 4 of 0")
        self.assert_refused(NoPrime, "parts by 10007 of 10007")
        self.assert_refused(BadText, "common of y and z", 0)
        self.assert_refused(BadText, "common of x +  and z", 4)
        self.assert_refused(BadText, "parts of 0y", 1)
        self.assert_refused(BadText, "parts by 5 of 5 + 00", 5)

    def test_a_good_question_behind_a_refused_one(self):
        for line in ("", "parts by 4 of x", "parts of y", "parts of 0", "parts by 5 of 5", "common of x and y"):
            with self.assertRaises(ForgeError):
                asked(line)
            self.assertEqual(asked("parts of x^2 - 1"), "1 * (x - 1) * (x + 1)")
            self.assertEqual(asked("parts by 5 of x^2 + 1"), "1 * (x + 2) * (x + 3)")
            self.assertEqual(asked("common of x and x^2"), "x")


if __name__ == "__main__":
    unittest.main()
