"""Polynomials over a kind of numbers, as lists: the number of the power nought first.

Sums and products are reckoned in whole numbers and brought to the kind at the end, by trimmed:
what stands for a sum or a product is the same whenever that is done.
"""

from factorforge.errors import NoOver


# Changes the list it is given, so it is only ever given one that was made here.
def cut_noughts(numbers):
    while numbers and numbers[-1] == 0:
        numbers.pop()


def trimmed(kind, f):
    numbers = [kind.plain(number) for number in f]
    cut_noughts(numbers)
    return numbers


def plus(kind, f, g):
    sums = list(f) + [0] * (len(g) - len(f))
    for at, number in enumerate(g):
        sums[at] += number
    return trimmed(kind, sums)


def less(kind, f, g):
    return plus(kind, f, [-number for number in g])


def times(kind, f, g):
    # Brought to the kind first too, so that the products below stay short.
    ones = trimmed(kind, f)
    others = trimmed(kind, g)
    sums = [0] * (len(ones) + len(others))
    for at, one in enumerate(ones):
        for behind, other in enumerate(others):
            sums[at + behind] += one * other
    return trimmed(kind, sums)


def scaled(kind, f, number):
    return trimmed(kind, [number * one for one in f])


def product_of(kind, factors):
    product = [1]
    for factor in factors:
        product = times(kind, product, factor)
    return product


def power(kind, f, many):
    return product_of(kind, [f] * many)


def slope(kind, f):
    return trimmed(kind, [at * number for at, number in enumerate(f)][1:])


def divided(kind, f, g):
    rest = trimmed(kind, f)
    divisor = trimmed(kind, g)
    if not divisor:
        raise NoOver("nothing is divided by the polynomial nought")
    quotient = [0] * (len(rest) - len(divisor) + 1)
    while len(rest) >= len(divisor):
        gap = len(rest) - len(divisor)
        often = kind.over(rest[-1], divisor[-1])
        quotient[gap] = often
        for at, number in enumerate(divisor):
            rest[gap + at] = kind.plain(rest[gap + at] - often * number)
        cut_noughts(rest)
    return (quotient, rest)


def value(kind, f, number):
    place = kind.plain(number)
    total = 0
    for one in reversed(f):
        total = kind.plain(total * place + one)
    return total
