"""Sets of lifted pieces, and the polynomial that each of them would make a part."""

from factorforge.kinds import Wholes
from factorforge.polys import times, trimmed


# Of the places 0 to count - 1, where two sets together are all of them one has at most half of the places.
def sets(count):
    few = [bits for bits in range(1, 1 << count) if 2 * place_count(bits) <= count]
    return sorted(few, key=lambda bits: (place_count(bits), bits))


def place_count(bits):
    count = 0
    left = bits
    while left > 0:
        count += left & 1
        left >>= 1
    return count


def candidate(g, size, ups, bits):
    product = [trimmed(Wholes(), g)[-1]]
    for at, up in enumerate(ups):
        if (bits >> at) & 1 == 1:
            product = rests_by(size, times(Wholes(), product, rests_by(size, up)))
    return trimmed(Wholes(), [nearest(size, number) for number in product])


def rests_by(size, f):
    return [number % size for number in f]


# Above minus half of the size and at most half of it.
def nearest(size, number):
    rest = number % size
    return rest - size if 2 * rest > size else rest
