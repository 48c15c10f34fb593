"""Fractions as (numerator, denominator), the denominator being at least 1, without a common divisor."""

from math import gcd

NOTHING = (0, 1)


def ratio(numerator, denominator):
    """A fraction of two integers."""
    shared = gcd(numerator, denominator)
    if denominator < 0:
        shared = -shared
    return (numerator // shared, denominator // shared)


def times(one, other):
    """The product of two fractions."""
    return ratio(one[0] * other[0], one[1] * other[1])


def plus(one, other):
    """The sum of two fractions."""
    return ratio(one[0] * other[1] + other[0] * one[1], one[1] * other[1])


def beyond_whole(one):
    """What a fraction has beyond the greatest integer that is not above it."""
    return ratio(one[0] - one[0] // one[1] * one[1], one[1])
