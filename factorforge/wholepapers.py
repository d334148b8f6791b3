"""Papers that show of a polynomial over the whole numbers that it has no parts, and the search that makes them."""

from factorforge.bounds import bound
from factorforge.choices import candidate, sets
from factorforge.kinds import LARGEST_MANY, Powers, Rests, Wholes, is_prime, taken_times
from factorforge.polys import plus, product_of, scaled, times, trimmed
from factorforge.restpapers import holds
from factorforge.starts import start_of
from factorforge.wholes import bared, steps


def whole_holds(g, paper):
    whole = trimmed(Wholes(), g)
    if len(whole) < 2 or bared(whole)[0] != 1 or not size_fits(whole, paper[0], paper[1]):
        return False
    kind = Powers(paper[0], paper[1])
    ups = [trimmed(kind, up) for up in paper[2]]
    return (
        ups_fit(kind, whole, ups)
        and papers_fit(Rests(paper[0]), ups, paper[3])
        and rows_fit(whole, kind.size, ups, paper[4])
    )


def size_fits(g, prime, many):
    if not is_prime(prime) or g[-1] % prime == 0 or many < 1 or many > LARGEST_MANY:
        return False
    return taken_times(prime, many) > 2 * bound(g)


def ups_fit(kind, g, ups):
    if any([len(up) < 2 or up[-1] != 1 for up in ups]):
        return False
    return scaled(kind, product_of(kind, ups), g[-1]) == trimmed(kind, g)


def papers_fit(kind, ups, papers):
    rests = [trimmed(kind, up) for up in ups]
    if len(papers) != len(ups) or any([rests.count(one) > 1 for one in rests]):
        return False
    return all([holds(kind, one, paper) for one, paper in zip(rests, papers)])


def rows_fit(g, size, ups, rows):
    asked_for = sets(len(ups))
    if len(rows) != len(asked_for):
        return False
    for bits, row in zip(asked_for, rows):
        if row[0] != bits or not row_fits(g, candidate(g, size, ups, bits), row[1], row[2]):
            return False
    return True


# That c does not go into g, not even over fractions: q and r are what is asked of steps, with an r that isn't nought.
def row_fits(g, c, q, r):
    rest = trimmed(Wholes(), r)
    if not c or not rest or len(rest) >= len(c) or len(c) > len(g):
        return False
    often = taken_times(c[-1], len(g) - len(c) + 1)
    return plus(Wholes(), times(Wholes(), q, c), rest) == scaled(Wholes(), g, often)


def looked(g):
    whole = trimmed(Wholes(), g)
    start = start_of(whole)
    size = taken_times(start[0], start[1])
    rows = []
    for bits in sets(len(start[2])):
        c = candidate(whole, size, start[2], bits)
        told = steps(whole, c)
        if not told[1]:
            return ("part", bared(c)[1])
        rows.append((bits, told[0], told[1]))
    return ("paper", (start[0], start[1], start[2], start[3], rows))
