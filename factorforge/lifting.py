"""Pieces of a polynomial over Rests lifted to pieces over Powers."""

from factorforge.commons import common, shares
from factorforge.errors import BadLift
from factorforge.kinds import Powers, Rests, Wholes
from factorforge.polys import divided, less, plus, product_of, scaled, times, trimmed
from factorforge.powers import times_by


def lifted(prime, many, f, pieces):
    kind = Powers(prime, many)
    rests = Rests(prime)
    whole = trimmed(Wholes(), f)
    ones = [trimmed(rests, piece) for piece in pieces]
    refuse_bad_lift(rests, whole, ones)
    left = scaled(kind, whole, kind.over(1, whole[-1]))
    ups = []
    for at in range(len(ones) - 1):
        told = lifted_two(prime, many, left, ones[at], product_of(rests, ones[at + 1:]))
        ups.append(told[0])
        left = told[1]
    return ups + [left]


def refuse_bad_lift(rests, f, pieces):
    if not f or rests.plain(f[-1]) == 0:
        raise BadLift("the prime goes into the lead of f, or f is nought")
    for at, piece in enumerate(pieces):
        if len(piece) < 2 or piece[-1] != 1:
            raise BadLift("a piece has another lead than 1 or is of degree nought")
        for other in pieces[:at]:
            if common(rests, piece, other) != [1]:
                raise BadLift("two pieces have something in common")
    if scaled(rests, product_of(rests, pieces), f[-1]) != trimmed(rests, f):
        raise BadLift("the product of the pieces is not f")


# The one piece lifted and what f, lead 1, is over it, where f is the product of the two by the prime.
def lifted_two(prime, many, f, piece, other):
    up = piece
    inverse = shares(Rests(prime), other, piece)[1]
    height = 1
    while height < many:
        height = min(2 * height, many)
        kind = Powers(prime, height)
        up = plus(kind, up, times_by(kind, inverse, f, up))
        inverse = better_inverse(kind, inverse, divided(kind, f, up)[0], up)
    return (up, divided(Powers(prime, many), f, up)[0])


# Where inverse times other differs from 1 by up only by multiples of some size, here it does by ones of its square.
def better_inverse(kind, inverse, other, up):
    return times_by(kind, inverse, less(kind, [2], times(kind, inverse, other)), up)
