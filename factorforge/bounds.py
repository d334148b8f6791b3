"""How large the numbers of a part can be, and the prime and its power that a search for parts needs."""

from factorforge.commons import common
from factorforge.errors import NoPrime
from factorforge.kinds import LARGEST_PRIME, Rests, Wholes, is_prime, taken_times
from factorforge.polys import slope, trimmed


def bound(g):
    whole = trimmed(Wholes(), g)
    return sum([abs(number) for number in whole]) * taken_times(2, len(whole) - 1)


def good_prime(g):
    for number in range(2, LARGEST_PRIME + 1):
        if is_prime(number) and keeps_free_of_squares(number, g):
            return number
    raise NoPrime("no prime keeps the polynomial free of squares")


def keeps_free_of_squares(prime, g):
    kind = Rests(prime)
    lead = trimmed(Wholes(), g)[-1]
    return kind.plain(lead) != 0 and common(kind, g, slope(kind, g)) == [1]


def many_for(prime, g):
    least = 2 * bound(g)
    many = 1
    size = prime
    while size <= least:
        size *= prime
        many += 1
    return many
