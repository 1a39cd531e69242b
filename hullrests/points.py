"""Fractions, points and directions, reckoned exactly."""

from hullrests.checks import check_fraction, check_point
from hullrests.kinds import direction_fits, fraction_fits, point_fits
from hullrests.plane import cross_of, inner_of, place_between, place_sum, place_times, quarter_of, side_of, way_to


def is_fraction(value):
    """Whether a value, whatever it is, is a fraction."""
    return fraction_fits(value)


def is_point(value):
    """Whether a value, whatever it is, is a point."""
    return point_fits(value)


def is_direction(value):
    """Whether a value, whatever it is, is a direction."""
    return direction_fits(value)


def plus(point, other):
    """The sum of two points."""
    check_point(point)
    check_point(other)
    return place_sum(point, other)


def minus(point, other):
    """The first point less the other."""
    check_point(point)
    check_point(other)
    return way_to(other, point)


def times(point, fraction):
    """The fraction times the point."""
    check_point(point)
    check_fraction(fraction)
    return place_times(point, fraction)


def between(point, other, fraction):
    """The first point plus the fraction times the way to the other one."""
    check_point(point)
    check_point(other)
    check_fraction(fraction)
    return place_between(point, other, fraction)


def inner(point, other):
    """The inner product."""
    check_point(point)
    check_point(other)
    return inner_of(point, other)


def cross(point, other):
    """The cross product."""
    check_point(point)
    check_point(other)
    return cross_of(point, other)


def quarter(point):
    """The point turned a quarter, counterclockwise."""
    check_point(point)
    return quarter_of(point)


def sense(point, other, third):
    """1 if the third lies to the left of the way from the first to the other, -1 to the right, 0 on their line."""
    check_point(point)
    check_point(other)
    check_point(third)
    return side_of(point, other, third)
