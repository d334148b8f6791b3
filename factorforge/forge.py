"""Polynomials over the whole numbers parted until nothing parts further, with papers that show it."""

from factorforge.errors import Nought
from factorforge.kinds import Wholes
from factorforge.parting import order_key
from factorforge.polys import slope
from factorforge.wholepapers import looked
from factorforge.wholes import bared, goes, whole_common


def whole_parts(f):
    answer = told(f)
    return (answer[0], [(g, often) for g, often, paper in answer[1]])


def told(f):
    content_and_bare = bared(f)
    bare = content_and_bare[1]
    if not bare:
        raise Nought("nought has no parts to be told")
    triples = [(g, how_often(g, bare), paper) for g, paper in found_in(free_of_squares(bare))]
    return (content_and_bare[0], sorted(triples, key=lambda triple: order_key(triple[0])))


# Whatever goes into a polynomial goes into it once more often than into its slope.
def free_of_squares(g):
    return goes(g, whole_common(g, slope(Wholes(), g)))


# What has no parts and goes into a bare g that is free of squares, each with its paper.
def found_in(g):
    found = []
    waiting = [g] if len(g) > 1 else []
    while waiting:
        one = waiting.pop()
        answer = looked(one)
        if answer[0] == "paper":
            found.append((one, answer[1]))
        else:
            waiting.append(answer[1])
            waiting.append(goes(one, answer[1]))
    return found


def how_often(g, f):
    often = 0
    left = goes(f, g)
    while left is not None:
        often += 1
        left = goes(left, g)
    return often
