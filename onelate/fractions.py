"""FRACTIONS: tuples (num, den) of integers in lowest terms, den from 1 on."""

from math import gcd

from onelate.errors import NoQuotient


def fraction(num, den):
    """num / den as a FRACTION; NoQuotient() if den is 0."""
    if den == 0:
        raise NoQuotient()
    shared = gcd(num, den)
    if den < 0:
        shared = -shared
    return (num // shared, den // shared)


def plus(one, other):
    """The sum of two FRACTIONS."""
    # Only what the dens share can be left to shorten: long courses have great dens.
    shared = gcd(one[1], other[1])
    num = one[0] * (other[1] // shared) + other[0] * (one[1] // shared)
    rest = gcd(num, shared)
    return (num // rest, (one[1] // shared) * (other[1] // rest))


def less(one, other):
    """The difference of two FRACTIONS."""
    return plus(one, (-other[0], other[1]))


def times(one, other):
    """The product of two FRACTIONS."""
    # Shortened crosswise, ahead of multiplying, so that numbers stay small.
    left = gcd(one[0], other[1])
    right = gcd(other[0], one[1])
    return ((one[0] // left) * (other[0] // right), (one[1] // right) * (other[1] // left))


def over(one, other):
    """The quotient of two FRACTIONS; NoQuotient() if other is 0."""
    return fraction(one[0] * other[1], one[1] * other[0])


def size_of(one):
    """The FRACTION or its negative, whichever is not below 0."""
    return (abs(one[0]), one[1])


def compare(one, other):
    """-1, 0 or 1: one is less than, as great as, greater than other."""
    left = one[0] * other[1]
    right = other[0] * one[1]
    if left == right:
        return 0
    return -1 if left < right else 1


def total(some):
    """The sum of FRACTIONS, 0 if there are none."""
    together = (0, 1)
    for one in some:
        together = plus(together, one)
    return together


def greatest(some):
    """The greatest of at least one FRACTION."""
    most = some[0]
    for one in some:
        if compare(one, most) > 0:
            most = one
    return most


def least(some):
    """The least of at least one FRACTION."""
    lowest = some[0]
    for one in some:
        if compare(one, lowest) < 0:
            lowest = one
    return lowest
