"""Points 31 to 33 and the interface of factorforge/wholepapers.py."""

import random
import unittest

from cases import PolysCase
from factorforge.bounds import good_prime, many_for
from factorforge.choices import candidate, sets
from factorforge.kinds import Rests
from factorforge.lifting import lifted
from factorforge.parting import parts
from factorforge.restpapers import paper as rest_paper
from factorforge.wholepapers import looked, whole_holds
from factorforge.wholes import steps
from known import WITHOUT_PARTS
from reckoning import LONG, bare_of, disguised, form, product_of, product_of_all, slope_of, whole_common_of
from reckoning import whole_paper_is_good

# x^4 + 1 in four pieces, x^4 - 10x^2 + 1 in two and in four, x^2 + 1 in two, 2x^3 + 3 in one and in three, degree one.
SEVERAL = [([1, 0, 0, 0, 1], 17), ([1, 0, 0, 0, 1], 3), ([1, 0, -10, 0, 1], 5), ([1, 0, -10, 0, 1], 23),
           ([1, 0, 1], 5), ([3, 0, 0, 2], 7), ([3, 0, 0, 2], 31), ([5, 7], 2), ([1, 1, 1, 1, 1], 11)]


def made(g, prime, more=0):
    """A paper as point 31 tells it, by that prime, whether or not it is good."""
    many = many_for(prime, g) + more
    kind = Rests(prime)
    pieces = [piece for piece, often in parts(kind, g)[1]]
    ups = lifted(prime, many, g, pieces)
    rows = []
    for bits in sets(len(ups)):
        rows.append((bits, *steps(g, candidate(g, prime ** many, ups, bits))))
    return (prime, many, ups, [rest_paper(kind, piece) for piece in pieces], rows)


def with_field(paper, at, what):
    return paper[:at] + (what,) + paper[at + 1:]


def with_item(items, at, what):
    return items[:at] + [what] + items[at + 1:]


def changed_lists(numbers, change):
    """The list with that much more at one of its places, for each of them and for one behind its end."""
    return [with_item(numbers, at, number + change) for at, number in enumerate(numbers)] + [numbers + [change]]


class HoldsCase(PolysCase):
    def assert_holds(self, expected, g, paper):
        with self.subTest(g=g, paper=paper):
            self.assertIs(whole_paper_is_good(g, paper), expected)
            self.assertIs(whole_holds(g, paper), expected)

    def each_paper(self):
        for g, prime in SEVERAL:
            yield g, made(g, prime)


class TestGood(HoldsCase):
    def test_what_looked_tells(self):
        for g in WITHOUT_PARTS:
            word, paper = looked(g)
            self.assertEqual(word, "paper")
            self.assert_holds(True, g, paper)

    def test_other_primes_and_larger_powers(self):
        for g, prime in SEVERAL:
            self.assert_holds(True, g, made(g, prime))
            self.assert_holds(True, g, made(g, prime, 1))
            self.assert_holds(True, g, made(g, prime, 12))

    def test_twelve_pieces(self):
        paper = made([1] * 13, 53)
        self.assertEqual((len(paper[2]), len(paper[4])), (12, 2509))
        self.assert_holds(True, [1] * 13, paper)
        self.assert_holds(False, [1] * 13, with_field(paper, 4, paper[4][:-1]))
        bits, q, r = paper[4][-1]
        self.assert_holds(False, [1] * 13, with_field(paper, 4, paper[4][:-1] + [(bits, q, [r[0] + 1] + r[1:])]))

    def test_numbers_that_mean_the_same(self):
        source = random.Random(131)
        for g, paper in self.each_paper():
            prime, many, ups, papers, rows = paper
            size = prime ** many
            other_ups = [disguised(source, size, up) for up in ups]
            other_papers = [(disguised(source, prime, a), disguised(source, prime, b),
                             [[number + prime * source.choice([-1, 3, LONG]) for number in row] for row in r])
                            for a, b, r in papers]
            other_rows = [(bits, q + [0, 0], r + [0]) for bits, q, r in rows]
            self.assert_holds(True, g, with_field(paper, 2, other_ups))
            self.assert_holds(True, g, with_field(paper, 3, other_papers))
            self.assert_holds(True, g, with_field(paper, 4, other_rows))
            self.assert_holds(True, g + [0, 0], (prime, many, other_ups, other_papers, other_rows))

    def test_another_order_of_the_pieces(self):
        for g, prime in SEVERAL:
            prime, many, ups, papers, rows = made(g, prime)
            turned = ups[1:] + ups[:1]
            rows = [(bits, *steps(g, candidate(g, prime ** many, turned, bits))) for bits in sets(len(ups))]
            self.assert_holds(True, g, (prime, many, turned, papers[1:] + papers[:1], rows))


class TestBroken(HoldsCase):
    def test_the_prime(self):
        for g, paper in self.each_paper():
            prime, many = paper[:2]
            for other in (-prime, 0, 1, 4, 9, prime * prime, 9409, 9971, 10007, LONG):
                self.assert_holds(False, g, with_field(paper, 0, other))
            for other in (2, 3, 5, 19, 9973):
                if other != prime and len(paper[2]) > 1:
                    self.assert_holds(False, g, with_field(paper, 0, other))
            # The same size by a square that is no prime.
            self.assert_holds(False, g, (prime * prime, (many + 1) // 2) + made(g, prime, many % 2)[2:])

    def test_a_prime_that_goes_into_the_lead(self):
        for g, up in (([1, 2], [1, 1]), ([1, 1, 2], [1, 1]), ([1, 3, 3], [1, 0, 1])):
            paper = (g[-1], 300, [up], [([], [1], [[]] if len(up) == 2 else [[0], [1]])], [])
            self.assert_holds(False, g, paper)

    def test_many(self):
        for g, paper in self.each_paper():
            for other in (-1, 0, 1, paper[1] - 1, 401, 1000, LONG):
                self.assert_holds(False, g, with_field(paper, 1, other))

    def test_the_size_is_too_small(self):
        for g, prime in SEVERAL:
            for less in (1, 2):
                if many_for(prime, g) > less:
                    self.assert_holds(False, g, made(g, prime, -less))

    def test_the_size_just_at_the_bound(self):
        # Twice the bound of x + 1 is 8.
        simple = [([], [1], [[]])]
        self.assert_holds(False, [1, 1], (2, 3, [[1, 1]], simple, []))
        self.assert_holds(True, [1, 1], (2, 4, [[1, 1]], simple, []))
        self.assert_holds(True, [1, 1], (3, 2, [[1, 1]], simple, []))
        self.assert_holds(False, [1, 1], (3, 1, [[1, 1]], simple, []))

    def test_many_at_its_edges(self):
        simple = [([], [1], [[]])]
        for prime in (2, 3, 9973):
            self.assert_holds(True, [1, 1], (prime, 400, [[1, 1]], simple, []))
            self.assert_holds(False, [1, 1], (prime, 401, [[1, 1]], simple, []))
        self.assert_holds(True, [1, 1], (9973, 1, [[1, 1]], simple, []))
        self.assert_holds(False, [1, 1], (9973, 0, [[1, 1]], simple, []))

    def test_pieces(self):
        for g, paper in self.each_paper():
            size = paper[0] ** paper[1]
            ups, papers = paper[2:4]
            for at, up in enumerate(ups):
                for change in (1, -1, paper[0], size // paper[0]):
                    for other in changed_lists(up, change):
                        self.assert_holds(False, g, with_field(paper, 2, with_item(ups, at, other)))
                self.assert_holds(False, g, with_field(paper, 2, ups[:at] + ups[at + 1:]))
                self.assert_holds(False, g, with_field(with_field(paper, 2, ups[:at] + ups[at + 1:]),
                                                       3, papers[:at] + papers[at + 1:]))
                self.assert_holds(False, g, with_field(paper, 2, ups + [up]))
                self.assert_holds(False, g, with_field(with_field(paper, 2, ups + [up]), 3, papers + [papers[at]]))
            self.assert_holds(False, g, with_field(paper, 2, []))
            self.assert_holds(False, g, paper[:2] + ([], [], []))

    def test_pieces_of_degree_nought_and_nought(self):
        for g, paper in self.each_paper():
            for other in ([1], [1, 0], [], [0, 0]):
                ups, papers = paper[2] + [other], paper[3] + [([1], [], [])]
                rows = [(bits, *steps(g, candidate(g, paper[0] ** paper[1], ups, bits) or [1]))
                        for bits in sets(len(ups))]
                self.assert_holds(False, g, with_field(paper, 2, ups))
                self.assert_holds(False, g, paper[:2] + (ups, papers, rows))

    def test_pieces_with_other_leads(self):
        # The leads cancel out in the product, and those of 1 + prime are 1 by the prime.
        for g, paper in self.each_paper():
            prime, many, ups, papers, rows = paper
            size = prime ** many
            for lead in (prime + 1, prime - 1):
                if len(ups) > 1:
                    one = [lead * number % size for number in ups[0]]
                    other = [pow(lead, -1, size) * number % size for number in ups[1]]
                    others = [one, other] + ups[2:]
                    self.assertEqual(product_of_all(size, others, g[-1]), form(size, g))
                    rows = [(bits, *steps(g, candidate(g, size, others, bits))) for bits in sets(len(ups))]
                    self.assert_holds(False, g, (prime, many, others, papers, rows))

    def test_a_piece_that_parts_by_the_prime(self):
        for g, paper in self.each_paper():
            prime, many, ups, papers, rows = paper
            if len(ups) > 1:
                both = [product_of(prime ** many, ups[0], ups[1])] + ups[2:]
                rows = [(bits, *steps(g, candidate(g, prime ** many, both, bits))) for bits in sets(len(both))]
                for one in papers:
                    self.assert_holds(False, g, (prime, many, both, [one] + papers[2:], rows))

    def test_pieces_that_are_the_same_by_the_prime(self):
        # x^2 - 98 has no parts, but x + 7s and x - 7s by each power of 7, with s * s = 2; by 7 itself both are x.
        g, many = [-98, 0, 1], 6
        root = next(s for s in range(7 ** (many - 2)) if (s * s - 2) % 7 ** (many - 2) == 0)
        ups = [[7 * root, 1], [-7 * root, 1]]
        self.assertEqual(product_of_all(7 ** many, ups), form(7 ** many, g))
        rows = [(bits, *steps(g, candidate(g, 7 ** many, ups, bits))) for bits in (1, 2)]
        self.assertTrue(all(r for bits, q, r in rows))
        self.assert_holds(False, g, (7, many, ups, [([], [1], [[]])] * 2, rows))

    def test_rest_papers(self):
        for g, paper in self.each_paper():
            papers = paper[3]
            for at, (a, b, r) in enumerate(papers):
                for change in (1, -1):
                    for other in changed_lists(a, change):
                        self.assert_holds(False, g, with_field(paper, 3, with_item(papers, at, (other, b, r))))
                    for other in changed_lists(b, change):
                        self.assert_holds(False, g, with_field(paper, 3, with_item(papers, at, (a, other, r))))
                for other in (r[1:], r + [[0] * (len(r) - 1)], [row + [0] for row in r], []):
                    self.assert_holds(False, g, with_field(paper, 3, with_item(papers, at, (a, b, other))))
                if len(r) > 1:
                    spoiled = [[0] * len(row) for row in r]
                    self.assert_holds(False, g, with_field(paper, 3, with_item(papers, at, (a, b, spoiled))))
                self.assert_holds(False, g, with_field(paper, 3, papers[:at] + papers[at + 1:]))
            self.assert_holds(False, g, with_field(paper, 3, papers + [papers[0]]))
            self.assert_holds(False, g, with_field(paper, 3, []))

    def test_rows(self):
        for g, paper in self.each_paper():
            rows = paper[4]
            for at, (bits, q, r) in enumerate(rows):
                broken = [(other, q, r) for other in (0, -1, bits + 1, bits - 1, 2 * bits, ~bits, LONG)]
                for change in (1, -1, paper[0] ** paper[1]):
                    broken += [(bits, other, r) for other in changed_lists(q, change)]
                    broken += [(bits, q, other) for other in changed_lists(r, change)]
                broken += [(bits, q, []), (bits, [], r), (bits, [], []), (bits, [-n for n in q], [-n for n in r])]
                for row in broken:
                    self.assert_holds(False, g, with_field(paper, 4, with_item(rows, at, row)))

    def test_a_rest_as_long_as_the_candidate(self):
        for g, paper in self.each_paper():
            size = paper[0] ** paper[1]
            for at, (bits, q, r) in enumerate(paper[4]):
                c = candidate(g, size, paper[2], bits)
                row = (bits, [q[0] - 1] + q[1:], form(0, [a + b for a, b in zip(c, r + [0] * len(c))]))
                self.assert_holds(False, g, with_field(paper, 4, with_item(paper[4], at, row)))

    def test_rows_missing_twice_or_out_of_order(self):
        for g, paper in self.each_paper():
            rows = paper[4]
            for at, row in enumerate(rows):
                self.assert_holds(False, g, with_field(paper, 4, rows[:at] + rows[at + 1:]))
                self.assert_holds(False, g, with_field(paper, 4, rows[:at] + [row] + rows[at:]))
                if at > 0:
                    self.assert_holds(False, g, with_field(paper, 4, with_item(rows, at, rows[at - 1])))
                    swapped = rows[:at - 1] + [rows[at], rows[at - 1]] + rows[at + 1:]
                    self.assert_holds(False, g, with_field(paper, 4, swapped))
            self.assert_holds(False, g, with_field(paper, 4, rows + [(2 ** len(paper[2]) - 1, [1], [1])]))
            if rows:
                self.assert_holds(False, g, with_field(paper, 4, []))
                self.assert_holds(False, g, with_field(paper, 4, list(reversed(rows))))

    def test_g_not_bare(self):
        for g, prime in SEVERAL:
            for factor in (2, -1, -2, 3, 10):
                if factor % prime != 0:
                    other = [factor * number for number in g]
                    self.assert_holds(False, other, made(other, prime))
                    self.assert_holds(False, other, made(g, prime))

    def test_g_of_degree_nought_and_nought(self):
        for g in ([1], [1, 0], [2], [-1], [], [0], [0, 0]):
            for ups, papers in (([], []), ([[1]], [([1], [], [])]), ([[1, 1]], [([], [1], [[]])])):
                self.assert_holds(False, g, (3, 5, ups, papers, []))

    def test_another_g(self):
        papers = list(self.each_paper())
        for g, paper in papers:
            for at in range(len(g)):
                other = with_item(g, at, g[at] + 1)
                self.assert_holds(whole_paper_is_good(other, paper), other, paper)
            for other, other_paper in papers:
                if other != g:
                    self.assert_holds(False, other, paper)


class TestProducts(HoldsCase):
    def test_a_product_never_has_a_good_paper(self):
        source = random.Random(132)
        for trial in range(60):
            f, g = (bare_of([source.randrange(-4, 5) for k in range(source.randrange(1, 4))] + [source.randrange(1, 4)])[1]
                    for k in range(2))
            product = product_of(0, f, g)
            if len(whole_common_of(product, slope_of(0, product))) > 1:
                continue
            paper = made(product, good_prime(product))
            self.assert_holds(False, product, paper)
            rows = [(bits, q, r or [1]) for bits, q, r in paper[4]]
            self.assert_holds(False, product, with_field(paper, 4, rows))
            self.assert_holds(False, product, with_field(paper, 4, []))
            ups = [product_of_all(paper[0] ** paper[1], paper[2])]
            for one in paper[3]:
                self.assert_holds(False, product, paper[:2] + (ups, [one], []))

    def test_squares(self):
        for g in WITHOUT_PARTS[:12]:
            square = product_of(0, g, g)
            prime, many, ups, papers, rows = looked(g)[1]
            self.assert_holds(False, square, (prime, many, ups, papers, rows))
            self.assert_holds(False, square, (prime, 2 * many + 4, ups + ups, papers + papers, rows))


class TestLooked(HoldsCase):
    def assert_paper(self, g):
        with self.subTest(g=g):
            told = looked(g)
            self.assertIs(told.__class__, tuple)
            self.assertEqual((len(told), told[0]), (2, "paper"))
            paper = told[1]
            self.assertIs(paper.__class__, tuple)
            self.assertEqual([one.__class__ for one in paper], [int, int, list, list, list])
            for up in paper[2]:
                self.assert_in_form(paper[0] ** paper[1], up)
            for a, b, r in paper[3]:
                self.assert_in_form(paper[0], a)
                self.assert_in_form(paper[0], b)
            for row in paper[4]:
                self.assertIs(row.__class__, tuple)
                self.assert_in_form(0, row[1])
                self.assert_in_form(0, row[2])
            self.assertTrue(all(one.__class__ is tuple for one in paper[3]))
            self.assertTrue(whole_paper_is_good(g, paper))

    def assert_part(self, g):
        with self.subTest(g=g):
            told = looked(g)
            self.assertIs(told.__class__, tuple)
            self.assertEqual((len(told), told[0]), (2, "part"))
            self.assert_poly(told[1], bare_of(told[1])[1])
            self.assertTrue(2 <= len(told[1]) < len(form(0, g)))
            self.assertEqual(whole_common_of(g, told[1]), told[1])

    def test_without_parts(self):
        for g in WITHOUT_PARTS:
            self.assert_paper(g)
            self.assert_paper(g + [0])

    def test_parting_by_every_prime(self):
        for g in ([1, 0, 0, 0, 1], [1, 0, -10, 0, 1], [576, 0, -960, 0, 352, 0, -40, 0, 1]):
            self.assertGreater(len(looked(g)[1][2]), 1)
            self.assert_paper(g)

    def test_degree_one(self):
        for g in ([0, 1], [1, 1], [-5, 3], [10 ** 67, 10 ** 67 + 1], [1, 2 * 3 * 5 * 7 * 11 * 13]):
            self.assert_paper(g)

    def test_degrees_two_and_three(self):
        source = random.Random(133)
        for trial in range(400):
            g = [source.randrange(-9, 10) for k in range(source.randrange(2, 4))] + [source.randrange(1, 5)]
            g = bare_of(g)[1]
            if len(whole_common_of(g, slope_of(0, g))) == 1:
                roots = [(a, b) for b in range(1, 5) for a in range(-9, 10)
                         if sum(number * a ** at * b ** (len(g) - 1 - at) for at, number in enumerate(g)) == 0]
                if roots:
                    self.assert_part(g)
                else:
                    self.assert_paper(g)

    def test_products_of_two(self):
        for at, f in enumerate(WITHOUT_PARTS):
            for g in WITHOUT_PARTS[:at]:
                if len(f) + len(g) <= 14:
                    self.assert_part(product_of(0, f, g))

    def test_products_of_more(self):
        self.assert_part([-1] + [0] * 11 + [1])
        self.assert_part(product_of_all(0, [[number, 1] for number in range(-6, 6)]))
        self.assert_part(product_of_all(0, [[1, number] for number in range(1, 13)]))
        self.assert_part(product_of_all(0, [[1, 0, 0, 0, 1], [1, 0, -10, 0, 1], [1, 1, 1, 1, 1]]))
        self.assert_part(product_of_all(0, [[-2, 0, 1], [-3, 0, 1], [-5, 0, 1], [-6, 0, 1], [-7, 0, 1], [-10, 0, 1]]))

    def test_long_numbers(self):
        f = [10 ** 33 + 7, 0, -3 * 10 ** 32, 1, 10 ** 33 + 1]
        g = [-10 ** 33, 5, 10 ** 32 + 3]
        self.assert_part(product_of(0, f, g))


if __name__ == "__main__":
    unittest.main()
