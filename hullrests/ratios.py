"""Fractions as pairs (n, m) of whole numbers, reduced, m above 0; nothing is checked here."""

from math import gcd


def sign_of(number):
    """1, 0 or -1."""
    if number > 0:
        return 1
    return -1 if number < 0 else 0


def common_divisor(numbers):
    """The greatest whole number that divides all of them; 0 if all are 0."""
    found = 0
    for number in numbers:
        found = gcd(found, number)
    return found


def ratio(n, m):
    """The fraction n / m, m not 0."""
    divisor = gcd(n, m)
    if m < 0:
        divisor = -divisor
    return (n // divisor, m // divisor)


def ratio_sum(one, other):
    """The sum of both."""
    return ratio(one[0] * other[1] + other[0] * one[1], one[1] * other[1])


def ratio_gap(one, other):
    """The first one less the other."""
    return ratio(one[0] * other[1] - other[0] * one[1], one[1] * other[1])


def ratio_product(one, other):
    """The product of both."""
    return ratio(one[0] * other[0], one[1] * other[1])


def ratio_quotient(one, other):
    """The first one divided by the other, which is not 0."""
    return ratio(one[0] * other[1], one[1] * other[0])


def order(one, other):
    """-1, 0 or 1, as the first one is below the other, the same, or above it."""
    return sign_of(one[0] * other[1] - other[0] * one[1])


def midway(one, other):
    """The mean of both."""
    return ratio(one[0] * other[1] + other[0] * one[1], 2 * one[1] * other[1])
