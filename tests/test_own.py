"""Point 3: what is handed in stays as it is, and what was told is the asker's own."""

import copy
import unittest

from factorforge import bounds, choices, commons, desk, forge, lifting, parting, polys, powers, restpapers, squares
from factorforge import tables, texts, wholepapers, wholes
from factorforge.errors import HasParts
from factorforge.kinds import Kind, Powers, Rests, Wholes

POLYNOMIALS = [
    [], [0], [1], [3, 0, 1], [3, 0, 1, 0, 0], [-1, 8, -20, 49, 1], [1, 1], [0, 0, 0], [7, 14], [5, 4, 3, 2, 1],
]


def all_kinds():
    return [Wholes(), Rests(2), Rests(7), Rests(9973), Powers(7, 1), Powers(7, 2), Powers(9973, 400)]


TABLES = [
    [[1]], [[0]], [[1, 2], [3, 4]], [[0, 0], [0, 0]], [[1, 0], [0, 1]], [[1, 2, 3], [2, 4, 6]], [[7, 8], [1, 1], [0, 5]],
]


def rest_kinds():
    return [Rests(2), Rests(3), Rests(7), Rests(9973)]


def monic(f):
    return f + [1]


# Each call is (function, what is handed to it) and is not refused.

def polys_calls(kind):
    found = []
    for f in POLYNOMIALS:
        found += [(polys.trimmed, [kind, f]), (polys.slope, [kind, f])]
        found += [(polys.power, [kind, f, many]) for many in (0, 1, 2, 3)]
        for number in (0, 1, -1, 7, 50):
            found += [(polys.scaled, [kind, f, number]), (polys.value, [kind, f, number])]
        for g in POLYNOMIALS:
            found += [(polys.plus, [kind, f, g]), (polys.less, [kind, f, g]), (polys.times, [kind, f, g])]
            found.append((polys.divided, [kind, f, monic(g)]))
    return found


def rests_calls(kind):
    found = []
    for f in POLYNOMIALS:
        found.append((squares.free_parts, [kind, monic(f)]))
        for g in POLYNOMIALS:
            found += [(commons.common, [kind, f, g]), (commons.shares, [kind, f, g])]
    return found


def tables_calls(kind):
    found = [(tables.echelon, [kind, rows]) for rows in TABLES + [[]]]
    found += [(tables.kernel, [kind, rows]) for rows in TABLES + [[]]]
    for rows in TABLES:
        found.append((tables.product, [kind, rows, [[5, 6]] * len(rows[0])]))
        found.append((tables.product, [kind, [], rows]))
    return found


def parting_calls(kind):
    found = []
    for f in POLYNOMIALS:
        found.append((parting.parts, [kind, monic(f)]))
        if f:
            found.append((powers.powering, [kind, monic(f)]))
            found += [(powers.raised, [kind, f, many, [3, 0, 1]]) for many in (0, 1, 2, 7)]
    found.append((parting.split, [kind, [0, 1, 1]]))
    for g in ([3, 1], [1, 1, 1], [1, 1, 0, 1]):
        found += papers_calls(kind, g)
    return found


def papers_calls(kind, g):
    try:
        told = restpapers.paper(kind, g)
    except HasParts:
        return [(restpapers.holds, [kind, g, ([1], [0, 1], [[1, 0]] * 3)])]
    return [(restpapers.paper, [kind, g]), (restpapers.holds, [kind, g, told]), (parting.split, [kind, g])]


def wholes_calls():
    found = []
    for f in POLYNOMIALS:
        found += [(wholes.bared, [f]), (bounds.bound, [monic(f)]), (bounds.many_for, [3, monic(f)])]
        for g in POLYNOMIALS:
            found += [(wholes.whole_common, [f, g]), (wholes.goes, [f, monic(g)]), (wholes.steps, [f, monic(g)])]
            found.append((wholes.goes, [polys.times(Wholes(), f, monic(g)), monic(g)]))
    found += [(bounds.good_prime, [g]) for g in ([1, 1], [1, 0, 1], [3, 0, 1, 0, 0], [0, 6])]
    for many in (1, 2, 5):
        found.append((lifting.lifted, [5, many, [1, 0, 1], [[2, 1], [3, 1]]]))
        found.append((lifting.lifted, [5, many, [1, 0, 1, 0], [[6, 0, 1]]]))
        found.append((lifting.lifted, [7, many, [0, 1], [[0, 1]]]))
    return found


def whole_calls():
    found = [(choices.sets, [count]) for count in range(7)]
    found += [(choices.candidate, [[1, 0, 1], 25, [[7, 1], [18, 1]], bits]) for bits in range(4)]
    for g in ([1, 1], [3, 0, 1, 0, 0], [1, 0, 0, 0, 1], [1, 0, -10, 0, 1]):
        found += [(wholepapers.looked, [g]), (wholepapers.whole_holds, [g, wholepapers.looked(g)[1]])]
        found.append((wholepapers.whole_holds, [[1, 2, 3], wholepapers.looked(g)[1]]))
    found += [(wholepapers.looked, [g]) for g in ([-1, 0, 1], [0, 2, 3], [4, 0, 0, 0, 1, 0])]
    for f in POLYNOMIALS:
        found += [(forge.whole_parts, [monic(f)]), (forge.told, [monic(f)])]
        for pairs in ([], [(f, 1)], [(f, 2), ([1, 1], 1), (f, 1)]):
            found += [(desk.product_shown, [-2, pairs]), (desk.multiplied, [-2, pairs])]
    found += [(desk.product_read, [text]) for text in ("0", "-2 * (x - 1)^2 * (x + 1)", "1 * (0) * (0) * (7)")]
    return found + [(desk.asked, [line]) for line in ("parts of x^2 - 1", "common of x and x^2", "parts by 5 of x^2")]


def texts_calls():
    return [(texts.shown, [f]) for f in POLYNOMIALS] + [(texts.read, [text]) for text in ("x", "0", "3x^2 - x + 7")]


def calls():
    found = [call for kind in all_kinds() for call in polys_calls(kind)]
    for kind in rest_kinds():
        found += rests_calls(kind) + tables_calls(kind) + parting_calls(kind)
    return found + wholes_calls() + whole_calls() + texts_calls()


def each_call():
    """(label, function, what is handed in), which is free to be changed."""
    for function, given in calls():
        shown = [f"size {one.size}" if isinstance(one, Kind) else one for one in given]
        label = f"{function.__module__}.{function.__name__} of {shown}"
        yield label, function, tuple(one if isinstance(one, Kind) else copy.deepcopy(one) for one in given)


def lists_in(what):
    """The lists that something is made of, however deep, those within before those around them."""
    if not isinstance(what, (list, tuple)):
        return []
    found = [one for inner in what for one in lists_in(inner)]
    return found + [what] if isinstance(what, list) else found


def spoil(what):
    """Changes every list within at each of its places that holds a number, and at both of its ends."""
    for one in lists_in(what):
        for at, number in enumerate(one):
            if isinstance(number, int):
                one[at] = number + 1
        one.append(99)
        one.insert(0, 98)


class TestOwn(unittest.TestCase):
    def test_what_is_handed_in_is_not_changed(self):
        for label, function, given in each_call():
            before = copy.deepcopy(lists_in(given))
            function(*given)
            self.assertEqual(lists_in(given), before, label)

    def test_a_change_to_what_was_handed_in_changes_nothing_told(self):
        for label, function, given in each_call():
            told = function(*given)
            before = copy.deepcopy(told)
            spoil(given)
            self.assertEqual(told, before, label)

    def test_a_change_to_what_was_told_changes_nothing_handed_in(self):
        for label, function, given in each_call():
            before = copy.deepcopy(lists_in(given))
            spoil(function(*given))
            self.assertEqual(lists_in(given), before, label)

    def test_a_change_to_what_was_told_changes_no_other_answer(self):
        for label, function, given in each_call():
            first = function(*given)
            second = function(*given)
            before = copy.deepcopy(first)
            spoil(first)
            self.assertEqual(second, before, label)
            self.assertEqual(function(*given), before, label)

    def test_no_list_stands_twice_in_an_answer(self):
        for label, function, given in each_call():
            found = lists_in(function(*given))
            for at, one in enumerate(found):
                self.assertFalse(any(one is other for other in found[:at]), label)

    def test_the_same_list_handed_in_twice(self):
        for label, function, given in each_call():
            if len(given) == 3 and isinstance(given[1], list) and isinstance(given[2], list):
                expected = function(given[0], list(given[2]), list(given[2]))
                before = list(given[2])
                self.assertEqual(function(given[0], given[2], given[2]), expected, label)
                self.assertEqual(given[2], before, label)

    def test_questions_in_between_change_nothing(self):
        one, other = Rests(7), Powers(7, 2)
        first = polys.times(one, [6, 5], [4, 3])
        polys.times(other, [6, 5], [4, 3])
        polys.divided(other, [6, 5], [4, 3])
        polys.power(Wholes(), [6, 5], 3)
        self.assertEqual(first, polys.times(one, [6, 5], [4, 3]))
        self.assertEqual(first, [3, 3, 1])


if __name__ == "__main__":
    unittest.main()
