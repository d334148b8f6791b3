"""What the tests expect is reckoned here, apart from the program, with dicts from powers to numbers.

A size of 0 stands for the whole numbers, any other for the rests by it.
"""

import itertools
import math
from fractions import Fraction

LONG = 314159265358979323846264338327950288419716939937510582097494


def brought(size, number):
    return number % size if size else number


def in_form(size, terms):
    numbers = {at: brought(size, number) for at, number in terms.items()}
    length = max([at + 1 for at, number in numbers.items() if number != 0], default=0)
    return [numbers.get(at, 0) for at in range(length)]


def form(size, f):
    return in_form(size, dict(enumerate(f)))


def sum_of(size, f, g, sign=1):
    terms = dict(enumerate(f))
    for at, number in enumerate(g):
        terms[at] = terms.get(at, 0) + sign * number
    return in_form(size, terms)


def product_of(size, f, g):
    terms = {}
    for i, a in enumerate(f):
        for k, b in enumerate(g):
            terms[i + k] = terms.get(i + k, 0) + a * b
    return in_form(size, terms)


def product_of_all(size, factors, number=1):
    product = form(size, [number])
    for factor in factors:
        product = product_of(size, product, factor)
    return product


def product_of_pairs(size, number, pairs):
    return product_of_all(size, [g for g, e in pairs for k in range(e)], number)


def slope_of(size, f):
    return in_form(size, {at - 1: at * number for at, number in enumerate(f) if at > 0})


def value_of(size, f, number):
    powers = [pow(number, at, size) if size else number ** at for at in range(len(f))]
    return brought(size, sum(a * b for a, b in zip(f, powers)))


def rest_of(prime, f, g):
    """The rest of f by g over the rests by a prime."""
    rest = form(prime, f)
    divisor = form(prime, g)
    turned = pow(divisor[-1], -1, prime)
    while len(rest) >= len(divisor):
        gap = len(rest) - len(divisor)
        share = rest[-1] * turned
        rest = sum_of(prime, rest, [0] * gap + [share * number for number in divisor], -1)
    return rest


def goes_into(prime, g, f):
    return form(prime, f) == [] if form(prime, g) == [] else rest_of(prime, f, g) == []


def common_of(prime, f, g):
    """The common one of the greatest degree, with the lead 1."""
    one, other = form(prime, f), form(prime, g)
    while other:
        one, other = other, rest_of(prime, one, other)
    return form(prime, [number * pow(one[-1], -1, prime) for number in one]) if one else []


def lead_one(prime, degree):
    """All polynomials with the lead 1 and that degree, over the rests by the prime."""
    return [list(numbers) + [1] for numbers in itertools.product(range(prime), repeat=degree)]


def has_no_parts(prime, f):
    """Whether nothing of a degree from one to half of f's goes into f, by trying all."""
    smaller = range(1, (len(form(prime, f)) - 1) // 2 + 1)
    return not any(goes_into(prime, g, f) for degree in smaller for g in lead_one(prime, degree))


def without_parts(prime, degree):
    """All polynomials with the lead 1, that degree and without parts."""
    return [f for f in lead_one(prime, degree) if has_no_parts(prime, f)]


def lies_in(size, numbers):
    """Whether numbers are whole and brought to the kind."""
    return all(number.__class__ is int and brought(size, number) == number for number in numbers)


def order_key(g):
    return (len(g), g)


def bare_of(f):
    """(content, bare polynomial), over the whole numbers."""
    whole = form(0, f)
    if not whole:
        return 0, []
    content = math.gcd(*whole) * (1 if whole[-1] > 0 else -1)
    return content, [number // content for number in whole]


def whole_common_of(f, g):
    """The bare common one of the greatest degree, by Euclid's steps with fractions."""
    one, other = ([Fraction(number) for number in form(0, numbers)] for numbers in (f, g))
    while other:
        rest = one
        while len(rest) >= len(other):
            share = [0] * (len(rest) - len(other)) + [rest[-1] / other[-1] * number for number in other]
            rest = form(0, [a - b for a, b in zip(rest, share)])
        one, other = other, rest
    below = math.lcm(*(number.denominator for number in one))
    return bare_of([int(number * below) for number in one])[1]


def disguised(source, size, f):
    """A list that stands for the same polynomial: numbers changed by multiples of the size, noughts at the end."""
    numbers = [number + size * source.choice([0, 1, -1, 3, -LONG, LONG]) for number in f]
    return numbers + [size * source.choice([0, 1, -2]) for k in range(source.randrange(0, 3))]


def some_numbers(source, size, length):
    """Numbers as they may be handed in: small, below nought, beside multiples of the size, and long."""
    near = [0, 0, 1, -1, 2, -3, 5, size, -size, size + 1, size - 1, 2 * size - 1, 7 * size, LONG, -LONG]
    return [source.choice(near) if source.random() < 0.6 else source.randrange(-1000, 1000) for k in range(length)]


def samples(source, size, count=24):
    fixed = [[], [0], [0, 0, 0], [1], [-1], [0, 1], [1, 0, 0], [size], [1, size], [0, -1, 2, -3, 0], [size, size, 0]]
    return fixed + [some_numbers(source, size, source.randrange(0, 9)) for k in range(count)]


def raised_of(prime, f, many, g):
    """The rest by g of f taken many times, from the first figure of many on, written by halves."""
    product = rest_of(prime, [1], g)
    for figure in bin(many)[2:]:
        product = rest_of(prime, product_of(prime, product, product), g)
        if figure == "1":
            product = rest_of(prime, product_of(prime, product, f), g)
    return product


def table_product(prime, ones, others):
    return [[sum(row[k] * others[k][j] for k in range(len(others))) % prime for j in range(len(others[0]))]
            for row in ones]


def units(length):
    return [[int(i == j) for j in range(length)] for i in range(length)]


def rank_of(prime, rows):
    """How many rows are left when each that is a sum of multiples of others is left out."""
    kept = {}
    for row in rows:
        left = [number % prime for number in row]
        while any(left):
            at = next(k for k, number in enumerate(left) if number)
            if at not in kept:
                kept[at] = left
                break
            factor = left[at] * pow(kept[at][at], -1, prime)
            left = [(a - factor * b) % prime for a, b in zip(left, kept[at])]
    return len(kept)


def rest_paper_is_good(prime, g, one):
    """Whether the paper is good for g, as point 23 says it."""
    a, b, r = one
    whole = form(prime, g)
    degree = len(whole) - 1
    if degree < 1 or whole[-1] != 1 or [len(row) for row in r] != [degree - 1] * degree:
        return False
    if sum_of(prime, product_of(prime, a, whole), product_of(prime, b, slope_of(prime, whole))) != [1]:
        return False
    table = []
    for at in range(1, degree):
        rest = raised_of(prime, [0, 1], prime * at, whole)
        table.append([number - int(k == at) for k, number in enumerate(rest + [0] * (degree - len(rest)))])
    return table_product(prime, table, r) == units(degree - 1) if table else True


def set_list(count):
    """The sets of one to half of count places, as numbers, the smaller sets first."""
    found = []
    for places in range(1, count // 2 + 1):
        found += sorted(sum(2 ** place for place in chosen) for chosen in itertools.combinations(range(count), places))
    return found


def nearest_of(size, number):
    """The one above minus half of size and at most half of it that differs by a multiple of size."""
    rest = number % size
    return rest if rest <= size - rest else rest - size


def candidate_of(g, size, ups, bits):
    chosen = [up for at, up in enumerate(ups) if bits // 2 ** at % 2 == 1]
    product = product_of_all(size, chosen, form(0, g)[-1])
    return form(0, [nearest_of(size, number) for number in product])


def row_is_good(g, c, q, r):
    rest = form(0, r)
    if not c or not rest or len(rest) >= len(c) or len(c) > len(g):
        return False
    often = c[-1] ** (len(g) - len(c) + 1)
    return sum_of(0, product_of(0, q, c), rest) == form(0, [often * number for number in g])


def whole_paper_is_good(g, paper):
    """Whether the paper is good for g, as point 31 says it, in its order."""
    prime, many, ups, papers, rows = paper
    whole = form(0, g)
    if len(whole) < 2 or bare_of(whole) != (1, whole):
        return False
    if not 2 <= prime <= 9973 or any(prime % low == 0 for low in range(2, prime)) or whole[-1] % prime == 0:
        return False
    size = prime ** many if 1 <= many <= 400 else 0
    if size <= 2 * sum(map(abs, whole)) * 2 ** (len(whole) - 1):
        return False
    brought_ups = [form(size, up) for up in ups]
    if not ups or any(len(up) < 2 or up[-1] != 1 for up in brought_ups):
        return False
    if product_of_all(size, brought_ups, whole[-1]) != form(size, whole) or len(papers) != len(ups):
        return False
    if not all(rest_paper_is_good(prime, up, one) for up, one in zip(brought_ups, papers)):
        return False
    by_prime = [form(prime, up) for up in brought_ups]
    asked = set_list(len(ups))
    if any(one in by_prime[:at] for at, one in enumerate(by_prime)) or [row[0] for row in rows] != asked:
        return False
    return all(row_is_good(whole, candidate_of(whole, size, ups, bits), q, r) for bits, q, r in rows)
