"""The only root of a row of degree 1 or 2 on a stretch, which may be no fraction; nothing is checked here.

Such a root is told by the triple (ONLY, LOW, HIGH): the row, and the ends of the stretch, where the root may lie, too.
On the stretch the row is below 0 before its root, and above 0 behind it.
"""

from math import isqrt

from hullrests.polys import row_remainder, sign_at
from hullrests.ratios import order, ratio, sign_of
from hullrests.roots import chain_of, changes_along, changes_at, root_floor


def root_beside(surd, at):
    """-1, 0 or 1, as the root is below a fraction, the same, or above it."""
    only, low, high = surd
    if order(at, low) < 0:
        return 1
    if order(high, at) < 0:
        return -1
    return -sign_at(only, at)


def sign_at_surd(row, surd):
    """The sign of the worth of a row at the root."""
    rest = row_remainder(row, surd[0])
    if len(rest) < 2:
        return sign_of(rest[0]) if rest else 0
    return sign_of(rest[1]) * root_beside(surd, ratio(-rest[0], rest[1]))


def count_before_surd(row, surd):
    """How many unlike roots a row not nought has from LOW on, below the root."""
    chain, low = chain_of(row), surd[1]
    there = changes_along([sign_at_surd(each, surd) for each in chain])
    here = 1 if sign_at(row, low) == 0 else 0
    own = 1 if sign_at_surd(row, surd) == 0 else 0
    return changes_at(chain, low) - there + here - own


def surd_floor(surd, many):
    """The pair (n, IS_JUST): the root is from n / many on, below (n + 1) / many, and whether it is n / many."""
    only, low, high = surd
    return root_floor(chain_of(only), low, high, 0, many)


def fraction_of(surd):
    """The root if it is a fraction, else None."""
    only = surd[0]
    if len(only) == 2:
        return ratio(-only[0], only[1])
    c, b, a = only
    square = b * b - 4 * a * c
    side = isqrt(square)
    # Of both roots this is the one at which the row grows.
    return ratio(side - b, 2 * a) if side * side == square else None
