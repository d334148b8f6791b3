"""Kinds of numbers: the whole numbers, their rests by a prime, and their rests by a power of a prime.

No refusal here writes a number into its words: Python itself refuses to write very long ones.
"""

from factorforge.errors import NoOver, NoPower, NoPrime

LARGEST_PRIME = 9973
LARGEST_MANY = 400


def is_prime(number):
    if number < 2 or number > LARGEST_PRIME:
        return False
    divisor = 2
    while divisor * divisor <= number:
        if number % divisor == 0:
            return False
        divisor += 1
    return True


def turned(number, size):
    # Euclid's steps; each rest stays its share times the number, but for a multiple of size.
    before = size
    rest = number % size
    share_before = 0
    share = 1
    while rest != 0:
        often = before // rest
        rest_behind = before - often * rest
        share_behind = share_before - often * share
        before = rest
        rest = rest_behind
        share_before = share
        share = share_behind
    if before != 1:
        raise NoOver("the number and the size have a common divisor above 1")
    return share_before % size


def refuse_no_prime(number):
    if not is_prime(number):
        raise NoPrime("not a prime from 2 to 9973")


def taken_times(number, many):
    product = 1
    for step in range(many):
        product *= number
    return product


# Reckons with rests by size, as two of the three kinds do; Wholes says where it differs.
class Kind:
    def __init__(self, size):
        self.size = size

    def plain(self, number):
        return number % self.size

    def plus(self, a, b):
        return self.plain(a + b)

    def less(self, a, b):
        return self.plain(a - b)

    def times(self, a, b):
        return self.plain(a * b)

    # The size is a power of the prime, so turned refuses b just where the prime goes into it.
    def over(self, a, b):
        return self.plain(a * turned(b, self.size))


class Wholes(Kind):
    def __init__(self):
        Kind.__init__(self, 0)

    def plain(self, number):
        return number

    def over(self, a, b):
        if b == 0 or a % b != 0:
            raise NoOver("the second number is nought or does not go into the first")
        return a // b


class Rests(Kind):
    def __init__(self, prime):
        refuse_no_prime(prime)
        Kind.__init__(self, prime)


class Powers(Kind):
    def __init__(self, prime, many):
        refuse_no_prime(prime)
        if many < 1 or many > LARGEST_MANY:
            raise NoPower("many is not from 1 to 400")
        Kind.__init__(self, taken_times(prime, many))
        self.prime = prime
