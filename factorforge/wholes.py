"""Polynomials with whole coefficients: what their numbers have in common, what they have, and division."""

from factorforge.errors import NoOver
from factorforge.kinds import Wholes
from factorforge.polys import divided, trimmed


def common_divisor(a, b):
    before = abs(a)
    rest = abs(b)
    while rest != 0:
        behind = before % rest
        before = rest
        rest = behind
    return before


def bared(f):
    whole = trimmed(Wholes(), f)
    content = 0
    for number in whole:
        content = common_divisor(content, number)
    if whole and whole[-1] < 0:
        content = -content
    return (content, [number // content for number in whole])


def goes(f, g):
    try:
        told = divided(Wholes(), f, g)
    except NoOver:
        return None
    return None if told[1] else told[0]


# Each round multiplies with the lead once, whether there is something to take off or not.
def steps(f, c):
    rest = trimmed(Wholes(), f)
    divisor = trimmed(Wholes(), c)
    lead = divisor[-1]
    quotient = []
    while len(rest) >= len(divisor):
        often = rest[-1]
        taken = [0] * (len(rest) - len(divisor)) + [often * number for number in divisor]
        rest = [lead * number - other for number, other in zip(rest, taken)][:-1]
        quotient = [often] + [lead * number for number in quotient]
    return (quotient, trimmed(Wholes(), rest))


# Euclid's steps, each rest made bare: contents don't matter here, and the numbers stay short.
def whole_common(f, g):
    before = bared(f)[1]
    rest = bared(g)[1]
    while rest:
        behind = bared(steps(before, rest)[1])[1]
        before = rest
        rest = behind
    return before
