"""Series: polynomials with fractions as coefficients, that of the power 0 first; nothing is checked here."""

from math import lcm

from hullrests.polys import row_shortest, trimmed
from hullrests.ratios import ratio, ratio_product, ratio_sum


def series_sum(one, other):
    """The sum of both."""
    longer, shorter = (one, other) if len(one) >= len(other) else (other, one)
    return [ratio_sum(n, shorter[k]) if k < len(shorter) else n for k, n in enumerate(longer)]


def series_by(one, fraction):
    """The series times a fraction."""
    return [ratio_product(n, fraction) for n in one]


def series_gap(one, other):
    """The first one less the other."""
    return series_sum(one, series_by(other, (-1, 1)))


def series_product(one, other):
    """The product of both."""
    found = [(0, 1)] * (len(one) + len(other) - 1)
    for k, n in enumerate(one):
        for j, m in enumerate(other):
            found[k + j] = ratio_sum(found[k + j], ratio_product(n, m))
    return found


def series_worth(one, at):
    """The worth at a fraction."""
    found = (0, 1)
    for n in reversed(one):
        found = ratio_sum(ratio_product(found, at), n)
    return found


def series_from(growth, at, worth):
    """The series with this growth that has this worth at a fraction."""
    total = [(0, 1)] + [ratio(n, m * (k + 1)) for k, (n, m) in enumerate(growth)]
    n, m = series_worth(total, at)
    return series_sum(total, [ratio_sum(worth, (-n, m))])


def series_row(one):
    """The shortest row that is the series but for a factor above 0."""
    scale = 1
    for n, m in one:
        scale = lcm(scale, m)
    return row_shortest(trimmed([n * (scale // m) for n, m in one]))
