"""Polynomials over Rests sorted out by how often what has no parts goes into them."""

from factorforge.commons import common, with_lead_one
from factorforge.errors import Nought
from factorforge.polys import divided, slope, trimmed


def free_parts(kind, f):
    left = with_lead_one(kind, trimmed(kind, f))
    if not left:
        raise Nought("nought has no parts to be told")
    pairs = []
    factor = 1
    while len(left) > 1:
        found = seen_by_slope(kind, left)
        for g, often in found[0]:
            pairs.append((g, often * factor))
        # What the slope doesn't see goes in a multiple of the prime's times, so a root of it can be taken.
        left = found[1][::kind.size]
        factor *= kind.size
    return sorted(pairs, key=lambda pair: pair[1])


# The pairs (g, e) of f, lead 1, in which e is no multiple of the prime, and the product of all the others.
def seen_by_slope(kind, f):
    deeper = common(kind, f, slope(kind, f))
    layer = divided(kind, f, deeper)[0]
    pairs = []
    often = 1
    while len(layer) > 1:
        next_layer = common(kind, layer, deeper)
        g = divided(kind, layer, next_layer)[0]
        if len(g) > 1:
            pairs.append((g, often))
        deeper = divided(kind, deeper, next_layer)[0]
        layer = next_layer
        often += 1
    return (pairs, deeper)
