"""Rows, tuples of whole numbers as polynomials, of any length; nothing is checked here."""

from math import gcd

from hullrests.ratios import common_divisor, sign_of


def trimmed(numbers):
    """The row of the numbers, noughts at the end left out."""
    many = len(numbers)
    while many > 0 and numbers[many - 1] == 0:
        many = many - 1
    return tuple(numbers[:many])


def row_plus(row, other):
    """The sum of both."""
    many = max(len(row), len(other))
    longer = [row[k] if k < len(row) else 0 for k in range(many)]
    return trimmed([n + other[k] if k < len(other) else n for k, n in enumerate(longer)])


def row_by(row, number):
    """The row times a whole number."""
    return trimmed([n * number for n in row])


def row_less(row, other):
    """The first one less the other."""
    return row_plus(row, row_by(other, -1))


def row_times(row, other):
    """The product of both."""
    if not row or not other:
        return ()
    found = [0] * (len(row) + len(other) - 1)
    for k, n in enumerate(row):
        for j, m in enumerate(other):
            found[k + j] = found[k + j] + n * m
    return trimmed(found)


def row_growth(row):
    """The derivative."""
    return trimmed([k * n for k, n in enumerate(row)][1:])


def row_shortest(row):
    """The row without a common divisor above 1."""
    divisor = common_divisor(row)
    return tuple([n // divisor for n in row])


def row_division(row, other):
    """The pair (QUOTIENT, REMAINDER) of the row, or of the row times a whole number above 0, by one not nought."""
    rest = list(row)
    quotient = [0] * max(0, len(row) - len(other) + 1)
    while len(rest) >= len(other):
        divisor = gcd(rest[-1], other[-1])
        many = abs(other[-1]) // divisor
        share = rest[-1] // divisor * sign_of(other[-1])
        at = len(rest) - len(other)
        quotient = [n * many for n in quotient]
        quotient[at] = quotient[at] + share
        rest = [n * many for n in rest]
        for k, n in enumerate(other):
            rest[at + k] = rest[at + k] - share * n
        rest = list(trimmed(rest))
    return (trimmed(quotient), tuple(rest))


def row_remainder(row, other):
    """The remainder by one that is not nought, shortest."""
    return row_shortest(row_division(row, other)[1])


def row_quotient(row, other):
    """The quotient by one that is not nought, shortest."""
    return row_shortest(row_division(row, other)[0])


def row_common(row, other):
    """The greatest common divisor, shortest, its last number above 0; () for two noughts."""
    while other:
        row, other = other, row_remainder(row, other)
    found = row_shortest(row)
    return row_by(found, -1) if found and found[-1] < 0 else found


def row_sturm(row):
    """The Sturm row of one that is not nought."""
    found = [row_shortest(row)]
    ahead = row_shortest(row_growth(row))
    while ahead:
        found.append(ahead)
        ahead = row_by(row_remainder(found[-2], ahead), -1)
    return tuple(found)


def worth_times(row, at):
    """The worth at a fraction, times the power of its m that makes it whole."""
    n, m = at
    found, power = 0, 1
    for number in reversed(row):
        found = found * n + number * power
        power = power * m
    return found


def sign_at(row, at):
    """The sign of the worth at a fraction."""
    return sign_of(worth_times(row, at))
