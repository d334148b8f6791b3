"""Polynomials over Rests parted until nothing parts further.

Chance would find the parts too. Here they are found through the polynomials h that taken as often as the prime says
stay the same by g: by each part without parts of g such an h is a number, and unlike numbers tell the parts apart.
"""

from factorforge.commons import common
from factorforge.polys import less, trimmed, value
from factorforge.powers import power_rows, powering
from factorforge.squares import free_parts
from factorforge.tables import kernel


# What polynomials, of whatever kind, are put in order by.
def order_key(g):
    return (len(g), g)


# The table powering(g) with 1 taken off each number from corner to corner.
def powering_less_one(kind, g):
    return [row_less_one(kind, row, at) for at, row in enumerate(powering(kind, g))]


def row_less_one(kind, row, at):
    return row[:at] + [kind.less(row[at], 1)] + row[at + 1:]


def split(kind, g):
    pieces = [trimmed(kind, g)]
    staying = kernel(kind, powering_less_one(kind, g))
    for h in staying:
        # There are as many parts as independent h.
        if len(pieces) < len(staying):
            pieces = told_apart(kind, pieces, h, possible_numbers(kind, h, len(staying), g))
    return sorted(pieces, key=order_key)


# Numbers among which are all that h is by one of the count parts of g: they are at most count many,
# so among the first powers of h some sum of multiples is nought by g, and each of them is put to nought by it too.
def possible_numbers(kind, h, count, g):
    relation = kernel(kind, power_rows(kind, h, count + 1, g))[0]
    return [number for number in range(kind.size) if value(kind, relation, number) == 0]


def told_apart(kind, pieces, h, numbers):
    finer = []
    for piece in pieces:
        for number in numbers:
            shared = common(kind, piece, less(kind, h, [number]))
            if len(shared) > 1:
                finer.append(shared)
    return finer


# Nought is refused by free_parts.
def parts(kind, f):
    pairs = []
    for free, often in free_parts(kind, f):
        for g in split(kind, free):
            pairs.append((g, often))
    return (trimmed(kind, f)[-1], sorted(pairs, key=lambda pair: order_key(pair[0])))
