"""Points 11 to 13 and the interface of factorforge/texts.py."""

import itertools
import random
import re
import unittest

from cases import PolysCase
from factorforge.errors import BadText, ForgeError
from factorforge.texts import read, shown
from reckoning import in_form, some_numbers

NUMBER = r"(?:0|[1-9][0-9]{0,99})"
POWER = r"(?:0|[1-9]|[123][0-9]|40)"
TERM = rf"(?:{NUMBER}?x(?:\^{POWER})?|{NUMBER})"
READABLE = re.compile(rf" *[+-]? *{TERM}(?: *[+-] *{TERM})* *")

HUNDRED = "9" + "8" * 98 + "7"


def is_readable(text):
    return READABLE.fullmatch(text) is not None


def is_beginning(text):
    """Whether some text that can be read begins so: where it can't be read itself, a figure or x must complete it."""
    return any(is_readable(text + behind) for behind in ("", "1", "x"))


def place_of(text):
    return max(length for length in range(len(text) + 1) if is_beginning(text[:length]))


def summed(text):
    """What a readable text stands for, found term by term."""
    terms = {}
    for sign, number, x, power in re.findall(r"([+-]?)([0-9]*)(x?)\^?([0-9]*)", text.replace(" ", "")):
        if number or x:
            at = 0 if not x else int(power or "1")
            terms[at] = terms.get(at, 0) + int(sign + (number or "1"))
    return in_form(0, terms)


class TestShown(PolysCase):
    def assert_shown(self, f, text):
        told = shown(f)
        self.assertIs(told.__class__, str)
        self.assertEqual(told, text)

    def test_the_examples(self):
        self.assert_shown([7, -1, 3], "3x^2 - x + 7")
        self.assert_shown([0, -1], "-x")

    def test_nought(self):
        for f in ([], [0], [0, 0], [0] * 80):
            self.assert_shown(f, "0")

    def test_noughts_inside_and_at_the_end(self):
        self.assert_shown([5, 0, 0, 2], "2x^3 + 5")
        self.assert_shown([0, 0, 2, 0, 0], "2x^2")
        self.assert_shown([0, 3, 0, -4, 0], "-4x^3 + 3x")
        self.assert_shown([7, 0, 0], "7")
        self.assert_shown([-7, 0, 0, 0], "-7")

    def test_one_and_minus_one_at_each_power(self):
        for at in range(80):
            term = "1" if at == 0 else "x" if at == 1 else f"x^{at}"
            self.assert_shown([0] * at + [1], term)
            self.assert_shown([0] * at + [-1], "-" + term)
            self.assert_shown([0] * at + [1] + [0] * (79 - at), term)
            if at < 79:
                self.assert_shown([0] * at + [1] + [0] * (78 - at) + [2], "2x^79 + " + term)
                self.assert_shown([0] * at + [-1] + [0] * (78 - at) + [-2], "-2x^79 - " + term)

    def test_ones_among_other_figures(self):
        self.assert_shown([1, 1, 1], "x^2 + x + 1")
        self.assert_shown([-1, -1, -1], "-x^2 - x - 1")
        self.assert_shown([11, 10, -1, -11, 100, 21], "21x^5 + 100x^4 - 11x^3 - x^2 + 10x + 11")

    def test_long_numbers(self):
        long = int(HUNDRED)
        self.assert_shown([long, -long, long], f"{HUNDRED}x^2 - {HUNDRED}x + {HUNDRED}")
        self.assert_shown([-long], "-" + HUNDRED)
        self.assert_shown([10 ** 2999 + 1, -1], "-x + 1" + "0" * 2998 + "1")

    def test_powers_above_forty(self):
        self.assert_shown([0] * 41 + [3], "3x^41")
        self.assert_shown([1] + [0] * 49 + [-1] + [0] * 28 + [-5], "-5x^79 - x^50 + 1")


class TestRead(PolysCase):
    def assert_read(self, text, f):
        self.assert_poly(read(text), f)

    def test_what_the_examples_say(self):
        self.assert_read("3x^2 - x + 7", [7, -1, 3])
        self.assert_read("-x", [0, -1])
        self.assert_read("0", [])

    def test_terms_in_any_order_and_several_of_one_power(self):
        self.assert_read("7 - x + 3x^2", [7, -1, 3])
        self.assert_read("x^3 + 1 + x^5 - 2x", [1, -2, 0, 1, 0, 1])
        self.assert_read("x + x + x - 5x + 2 + 3", [5, -2])
        self.assert_read("x^2 + 1 + x^2 + x^2 - 4", [-3, 0, 3])

    def test_powers_nought_and_one_written(self):
        self.assert_read("3x^0", [3])
        self.assert_read("x^0", [1])
        self.assert_read("-x^0 + 2x^1", [-1, 2])
        self.assert_read("x^1 - 1x^1 + 1x^0", [1])

    def test_sums_that_cancel(self):
        for text in ("x - x", "0", "+0", "-0", "0x", "0x^40", "-0x^3 + 0", "1 - x^0", "2x + 3 - x - 3 - x"):
            self.assert_read(text, [])
        self.assert_read("x^9 + x^2 - x^9", [0, 0, 1])

    def test_blanks(self):
        for text in ("x+1", " x+1", "x+1 ", "   x  +   1   ", "+x+1", " + x+1", "  +  x +1", "x +1", "x+ 1"):
            self.assert_read(text, [1, 1])
        for text in ("-x-1", " - x - 1 ", "-   x-   1", "   -x   -1"):
            self.assert_read(text, [-1, -1])
        self.assert_read(" " * 2000 + "x" + " " * 1999, [0, 1])

    def test_a_sign_ahead(self):
        self.assert_read("+5", [5])
        self.assert_read("-5", [-5])
        self.assert_read("+ 2x^3", [0, 0, 0, 2])
        self.assert_read("- 2x^3 + 1", [1, 0, 0, -2])

    def test_a_written_one_or_nought_ahead_of_x(self):
        self.assert_read("1x", [0, 1])
        self.assert_read("0x^7 + 1x^2", [0, 0, 1])
        self.assert_read("10x^10", [0] * 10 + [10])

    def test_the_longest_numbers_and_powers(self):
        long = int(HUNDRED)
        self.assert_read(HUNDRED, [long])
        self.assert_read(f"-{HUNDRED}x^40 + {HUNDRED}x", [0, long] + [0] * 38 + [-long])
        self.assert_read(f"{HUNDRED} + {HUNDRED}", [2 * long])
        for power in range(41):
            self.assert_read(f"x^{power}", [0] * power + [1])
            self.assert_read(f"2x^{power} - 1", [1] if power == 0 else [-1] + [0] * (power - 1) + [2])

    def test_many_terms(self):
        self.assert_read("x+" * 1999 + "x", [0, 2000])
        self.assert_read("-1" * 2000, [-2000])


class TestBadText(PolysCase):
    def assert_refused(self, text, place):
        with self.subTest(text[:80]):
            with self.assertRaises(BadText) as caught:
                read(text)
            self.assertIsInstance(caught.exception, ForgeError)
            self.assertIs(caught.exception.place.__class__, int)
            self.assertEqual(caught.exception.place, place)

    def test_empty_and_blank(self):
        self.assert_refused("", 0)
        self.assert_refused(" ", 1)
        self.assert_refused(" " * 4000, 4000)

    def test_ends_too_early(self):
        for text in ("+", "-", " - ", "x +", "x + ", "3x^", "x^2 - 4x^", "7-", "x^40 +  "):
            self.assert_refused(text, len(text))

    def test_two_signs_in_a_row(self):
        for text, place in (("++x", 1), ("- -x", 2), ("x+-1", 2), ("x + + 1", 4), ("x  --1", 4), ("x-  +", 4)):
            self.assert_refused(text, place)

    def test_blanks_inside_a_term(self):
        for text, place in (("3 x", 2), ("3x ^2", 3), ("3x^ 2", 3), ("x ^2", 2), ("1 2", 2), ("x^1 0", 4),
                            ("x^4  0", 5), ("x 2", 2), ("x x", 2), ("5   x + 1", 4)):
            self.assert_refused(text, place)

    def test_a_figure_behind_a_nought(self):
        for text, place in (("00", 1), ("01", 1), ("05x", 1), ("x + 07", 5), ("-00x", 2), ("x^2 - 012", 7)):
            self.assert_refused(text, place)

    def test_too_many_figures(self):
        self.assert_refused(HUNDRED + "1", 100)
        self.assert_refused(HUNDRED + "0x", 100)
        self.assert_refused("x + " + HUNDRED + "5", 104)
        self.assert_refused("1" * 4000, 100)

    def test_powers(self):
        for text, place in (("x^41", 3), ("x^400", 4), ("x^04", 3), ("x^00", 3), ("x^50", 3), ("x^99", 3),
                            ("x^123", 4), ("x^399", 4), ("2x^49 + 1", 4), ("x^01", 3), ("x^-1", 2), ("x^+1", 2),
                            ("x^x", 2), ("x^^2", 2), ("x^2^2", 3), ("1 + x^041", 7)):
            self.assert_refused(text, place)

    def test_a_power_without_x(self):
        for text, place in (("^2", 0), ("3^2", 1), ("x + ^2", 4), ("x + 3^2", 5), ("0^1", 1)):
            self.assert_refused(text, place)

    def test_signs_that_stand_in_no_term(self):
        for text, place in (("y", 0), ("X", 0), ("x*2", 1), ("2*x", 1), ("(x)", 0), ("x + y", 4), ("3.5", 1),
                            ("x^2,", 3), ("x2", 1), ("xx", 1), ("2xx", 2), ("2x3", 2), ("1_000", 1), ("x = 1", 2),
                            ("~", 0), ("x~", 1), ("x + 1!", 5), ("x^a", 2)):
            self.assert_refused(text, place)

    def test_each_sign_in_each_place(self):
        for sign in map(chr, range(ord(" "), ord("~") + 1)):
            if sign != "%":
                for text in (sign, "x" + sign, "3" + sign, "x^" + sign, "x^3" + sign, "x +" + sign, "x " + sign,
                             "0" + sign, sign + "x", "x^4" + sign, " -" + sign + "1"):
                    self.assert_alike(text)

    def assert_alike(self, text):
        """That the text is read or refused just as the expressions at this file's top say."""
        if is_readable(text):
            self.assert_poly(read(text), summed(text))
        else:
            with self.assertRaises(BadText, msg=text) as caught:
                read(text)
            self.assertEqual(caught.exception.place, place_of(text), text)

    def test_all_short_texts(self):
        for length in range(6):
            for signs in itertools.product("x^+- 041", repeat=length):
                self.assert_alike("".join(signs))

    def test_longer_texts(self):
        source = random.Random(21)
        pieces = ["x", "^", "+", "-", " ", "0", "4", "1", "39", "40", "x^2", "3x", " + ", " - ", "x^40", HUNDRED, "*"]
        for trial in range(5000):
            self.assert_alike("".join(source.choice(pieces) for k in range(source.randrange(3, 14))))


class TestBothWays(PolysCase):
    def test_what_is_shown_is_read_back(self):
        source = random.Random(22)
        for trial in range(500):
            f = [source.choice([0, 0, 1, -1, source.randrange(-10 ** 4, 10 ** 4)]) for k in range(source.randrange(42))]
            self.assert_poly(read(shown(f)), in_form(0, dict(enumerate(f))))

    def test_with_long_numbers(self):
        source = random.Random(23)
        for trial in range(20):
            f = [source.choice([0, 1, -1]) * source.randrange(10 ** 99, 10 ** 100) for k in range(41)]
            self.assert_poly(read(shown(f)), in_form(0, dict(enumerate(f))))
            f = some_numbers(source, 10 ** 50, 41)
            self.assert_poly(read(shown(f)), in_form(0, dict(enumerate(f))))


if __name__ == "__main__":
    unittest.main()
