"""Powers of polynomials by a polynomial, over Rests."""

from factorforge.polys import divided, times, trimmed


def times_by(kind, one, other, g):
    return divided(kind, times(kind, one, other), g)[1]


# Many as halves and ones, so that ten thousand factors take some twenty products.
def raised(kind, f, many, g):
    product = divided(kind, [1], g)[1]
    square = divided(kind, f, g)[1]
    left = many
    while left > 0:
        if left % 2 == 1:
            product = times_by(kind, product, square, g)
        square = times_by(kind, square, square, g)
        left //= 2
    return product


# The rests by g of f taken 0 times, once, twice .., as rows with as many numbers as the degree of g.
def power_rows(kind, f, count, g):
    degree = len(trimmed(kind, g)) - 1
    rest = raised(kind, f, 0, g)
    rows = []
    for step in range(count):
        rows.append(rest + [0] * (degree - len(rest)))
        rest = times_by(kind, rest, f, g)
    return rows


def powering(kind, g):
    degree = len(trimmed(kind, g)) - 1
    return power_rows(kind, raised(kind, [0, 1], kind.size, g), degree, g)
