"""Rows: polynomials with whole numbers, and where they are 0."""

from hullrests.checks import check_ahead, check_fraction, check_index, check_many, check_numbers, check_row
from hullrests.errors import InvalidIndex, InvalidRow, Nought
from hullrests.kinds import is_whole, row_fits
from hullrests.polys import row_common, row_growth, row_plus, row_remainder, row_shortest, row_sturm, row_times
from hullrests.polys import trimmed, worth_times
from hullrests.ratios import ratio
from hullrests.roots import chain_of, count_roots, root_floor, tale_of


def is_row(value):
    """Whether a value, whatever it is, is a row."""
    return row_fits(value)


def row_of(numbers):
    """The row of these numbers, noughts at the end left out."""
    check_numbers(numbers)
    return trimmed(numbers)


def worth(row, at):
    """The worth of the row at a fraction."""
    check_row(row)
    check_fraction(at)
    bottom = 1
    for _ in row[1:]:
        bottom = bottom * at[1]
    return ratio(worth_times(row, at), bottom)


def row_sum(row, other):
    """The sum of two rows."""
    check_row(row)
    check_row(other)
    return row_plus(row, other)


def row_product(row, other):
    """The product of two rows, if it is a row."""
    check_row(row)
    check_row(other)
    found = row_times(row, other)
    if not row_fits(found):
        raise InvalidRow(found)
    return found


def growth(row):
    """The derivative."""
    check_row(row)
    return row_growth(row)


def shortest(row):
    """The row without a common divisor above 1."""
    check_row(row)
    return row_shortest(row)


def remainder(row, other):
    """The remainder of the row by the other one, shortest."""
    check_row(row)
    check_row(other)
    if not other:
        raise Nought()
    return row_remainder(row, other)


def common_factor(row, other):
    """The greatest common divisor of both, shortest, its last number above 0."""
    check_row(row)
    check_row(other)
    return row_common(row, other)


def sturm_row(row):
    """The Sturm row of a row."""
    check_row(row)
    if not row:
        raise Nought()
    return row_sturm(row)


def _check_span(row, low, high):
    """The checks of a row and of a span."""
    check_row(row)
    check_fraction(low)
    check_fraction(high)


def how_many(row, low, high):
    """How many unlike roots there are from low up to high."""
    _check_span(row, low, high)
    check_ahead(low, high)
    if not row:
        raise Nought()
    return count_roots(chain_of(row), low, high)


def root_near(row, low, high, index, many):
    """Of these roots that with the index: (n, IS_JUST), from n / many on, below (n + 1) / many."""
    _check_span(row, low, high)
    if not is_whole(index) or index < 0:
        raise InvalidIndex(index)
    check_many(many)
    check_ahead(low, high)
    if not row:
        raise Nought()
    chain = chain_of(row)
    check_index(count_roots(chain, low, high), index)
    return root_floor(chain, low, high, index, many)


def sign_tale(row, low, high):
    """The signs of the worths from low up to high, neighbours that are alike told once."""
    _check_span(row, low, high)
    check_ahead(low, high)
    return tuple(tale_of(row, low, high))


def is_above(row, low, high):
    """Whether all worths from low up to high are above 0."""
    _check_span(row, low, high)
    check_ahead(low, high)
    return tale_of(row, low, high) == [1]
