"""Point 3: what is handed in stays as it is, and what was told is the asker's own."""

import copy
import unittest

from factorforge import polys
from factorforge.kinds import Powers, Rests, Wholes

POLYNOMIALS = [
    [], [0], [1], [3, 0, 1], [3, 0, 1, 0, 0], [-1, 8, -20, 49, 1], [1, 1], [0, 0, 0], [7, 14], [5, 4, 3, 2, 1],
]


def all_kinds():
    return [Wholes(), Rests(2), Rests(7), Rests(9973), Powers(7, 1), Powers(7, 2), Powers(9973, 400)]


def monic(f):
    return f + [1]


def calls():
    """(name, function, polynomials, numbers): each a call that is not refused over any of the kinds."""
    found = []
    for f in POLYNOMIALS:
        found.append(("trimmed", polys.trimmed, [f], []))
        found.append(("slope", polys.slope, [f], []))
        for many in (0, 1, 2, 3):
            found.append(("power", polys.power, [f], [many]))
        for number in (0, 1, -1, 7, 50):
            found.append(("scaled", polys.scaled, [f], [number]))
            found.append(("value", polys.value, [f], [number]))
        for g in POLYNOMIALS:
            found.append(("plus", polys.plus, [f, g], []))
            found.append(("less", polys.less, [f, g], []))
            found.append(("times", polys.times, [f, g], []))
            found.append(("divided", polys.divided, [f, monic(g)], []))
    return found


def lists_in(told):
    """The lists that an answer is made of."""
    if isinstance(told, list):
        return [told]
    if isinstance(told, tuple):
        return [one for one in told if isinstance(one, list)]
    return []


def spoil(numbers):
    """Changes a list at each of its places and at both of its ends."""
    for at in range(len(numbers)):
        numbers[at] += 1
    numbers.append(99)
    numbers.insert(0, 98)


def each_call():
    """(label, kind, function, polynomials, numbers), the polynomials free to be changed."""
    for kind in all_kinds():
        for name, function, lists, numbers in calls():
            label = f"{name} by size {kind.size} of {lists} and {numbers}"
            yield label, kind, function, copy.deepcopy(lists), numbers


class TestOwn(unittest.TestCase):
    def test_what_is_handed_in_is_not_changed(self):
        for label, kind, function, lists, numbers in each_call():
            before = copy.deepcopy(lists)
            function(kind, *lists, *numbers)
            self.assertEqual(lists, before, label)

    def test_a_change_to_what_was_handed_in_changes_nothing_told(self):
        for label, kind, function, lists, numbers in each_call():
            told = function(kind, *lists, *numbers)
            before = copy.deepcopy(told)
            for one in lists:
                spoil(one)
            self.assertEqual(told, before, label)

    def test_a_change_to_what_was_told_changes_nothing_handed_in(self):
        for label, kind, function, lists, numbers in each_call():
            before = copy.deepcopy(lists)
            for one in lists_in(function(kind, *lists, *numbers)):
                spoil(one)
            self.assertEqual(lists, before, label)

    def test_a_change_to_what_was_told_changes_no_other_answer(self):
        for label, kind, function, lists, numbers in each_call():
            first = function(kind, *lists, *numbers)
            second = function(kind, *lists, *numbers)
            before = copy.deepcopy(first)
            for one in lists_in(first):
                spoil(one)
            self.assertEqual(second, before, label)
            self.assertEqual(function(kind, *lists, *numbers), before, label)

    def test_quotient_and_rest_are_two_lists(self):
        for label, kind, function, lists, numbers in each_call():
            told = function(kind, *lists, *numbers)
            if function is polys.divided:
                self.assertIsNot(told[0], told[1], label)
                quotient = list(told[0])
                spoil(told[1])
                self.assertEqual(told[0], quotient, label)

    def test_the_same_list_handed_in_twice(self):
        for kind in all_kinds():
            for f in POLYNOMIALS:
                for function in (polys.plus, polys.less, polys.times, polys.divided):
                    with self.subTest(size=kind.size, f=f, function=function.__name__):
                        one = monic(f)
                        told = function(kind, one, one)
                        self.assertEqual(one, monic(f))
                        self.assertEqual(told, function(kind, monic(f), monic(f)))

    def test_questions_in_between_change_nothing(self):
        one, other = Rests(7), Powers(7, 2)
        first = polys.times(one, [6, 5], [4, 3])
        polys.times(other, [6, 5], [4, 3])
        polys.divided(other, [6, 5], [4, 3])
        polys.power(Wholes(), [6, 5], 3)
        self.assertEqual(first, polys.times(one, [6, 5], [4, 3]))
        self.assertEqual(first, [3, 3, 1])


if __name__ == "__main__":
    unittest.main()
