"""Papers that show of a polynomial over Rests that it has no parts."""

from factorforge.commons import shares
from factorforge.errors import HasParts
from factorforge.parting import powering_less_one
from factorforge.polys import plus, slope, times, trimmed
from factorforge.tables import echelon, product, unit_table


def holds(kind, g, paper):
    whole = trimmed(kind, g)
    if len(whole) < 2 or whole[-1] != 1:
        return False
    return shows_free_of_squares(kind, whole, paper) and shows_one_part(kind, whole, paper[2])


def shows_free_of_squares(kind, g, paper):
    reckoned = plus(kind, times(kind, paper[0], g), times(kind, paper[1], slope(kind, g)))
    return reckoned == [1]


def shows_one_part(kind, g, r):
    degree = len(g) - 1
    if len(r) != degree or any([len(row) != degree - 1 for row in r]):
        return False
    return product(kind, powering_less_one(kind, g)[1:], r) == unit_table(degree - 1)


def paper(kind, g):
    shared = shares(kind, g, slope(kind, g))
    if shared[0] != [1]:
        raise HasParts("a square goes into the polynomial")
    return (shared[1], shared[2], turned_back(kind, powering_less_one(kind, g)[1:]))


# The r with which the rows have the unit table as their product.
def turned_back(kind, rows):
    told = echelon(kind, rows)
    r = [[0] * len(rows) for at in range(len(rows) + 1)]
    for row, turning in zip(told[0], told[1]):
        if 1 not in row:
            raise HasParts("the polynomial is a product of two")
        r[row.index(1)] = turning
    return r
