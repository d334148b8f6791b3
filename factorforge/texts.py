"""Polynomials over the whole numbers as texts: written in one way, read in several."""

from factorforge.errors import BadText
from factorforge.kinds import Wholes
from factorforge.polys import trimmed

FIGURES = "0123456789"
MOST_FIGURES = 100
HIGHEST_POWER = 40


def shown(f):
    numbers = trimmed(Wholes(), f)
    if not numbers:
        return "0"
    text = "-" if numbers[-1] < 0 else ""
    text += term_shown(numbers[-1], len(numbers) - 1)
    for power in range(len(numbers) - 2, -1, -1):
        if numbers[power] != 0:
            text += " - " if numbers[power] < 0 else " + "
            text += term_shown(numbers[power], power)
    return text


def term_shown(number, power):
    figures = str(abs(number))
    if power == 0:
        return figures
    ahead = "" if figures == "1" else figures
    return ahead + "x" if power == 1 else f"{ahead}x^{power}"


# Takes sign by sign what can still become a readable text and stops at the first that can't:
# so its place, when it refuses, is the place that BadText is to tell.
class Reader:
    def __init__(self, text):
        self.text = text
        self.place = 0

    def at_end(self):
        return self.place == len(self.text)

    def stands(self, signs):
        return not self.at_end() and self.text[self.place] in signs

    def taken(self, signs):
        if not self.stands(signs):
            raise BadText(self.place)
        self.place += 1
        return self.text[self.place - 1]

    def skip_blanks(self):
        while self.stands(" "):
            self.place += 1

    # A minus or a plus as the number that the term behind it is multiplied with.
    def taken_sign(self):
        factor = -1 if self.taken("+-") == "-" else 1
        self.skip_blanks()
        return factor

    def taken_number(self):
        figures = self.taken(FIGURES)
        while figures != "0" and len(figures) < MOST_FIGURES and self.stands(FIGURES):
            figures += self.taken(FIGURES)
        return int(figures)

    # A figure that would make the power too high is left standing, for the caller to stumble over.
    def taken_power(self):
        power = int(self.taken(FIGURES))
        while power != 0 and self.stands(FIGURES) and 10 * power + int(self.text[self.place]) <= HIGHEST_POWER:
            power = 10 * power + int(self.taken(FIGURES))
        return power

    # A term as (number, power).
    def taken_term(self):
        number = 1
        if not self.stands("x"):
            number = self.taken_number()
            if not self.stands("x"):
                return (number, 0)
        self.taken("x")
        if not self.stands("^"):
            return (number, 1)
        self.taken("^")
        return (number, self.taken_power())


def read(text):
    reader = Reader(text)
    sums = [0] * (HIGHEST_POWER + 1)
    reader.skip_blanks()
    factor = reader.taken_sign() if reader.stands("+-") else 1
    add_term(sums, factor, reader)
    while not reader.at_end():
        factor = reader.taken_sign()
        add_term(sums, factor, reader)
    return trimmed(Wholes(), sums)


def add_term(sums, factor, reader):
    term = reader.taken_term()
    sums[term[1]] += factor * term[0]
    reader.skip_blanks()
