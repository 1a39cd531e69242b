"""Stands as water lines through a section."""

from hullrests.checks import check_direction, check_fraction, check_point, check_section, check_stand
from hullrests.errors import OffSection
from hullrests.kinds import stand_fits
from hullrests.plane import inner_of
from hullrests.polygons import polygon_area
from hullrests.ratios import order, ratio_gap, ratio_quotient
from hullrests.rims import end_points, stand_up, turned_back, wet_area, wet_indexes, wet_polygon


def height_of(up, point):
    """The height of a point along an up."""
    check_direction(up)
    check_point(point)
    return _height(up, point)


def _height(up, point):
    """The same, unchecked."""
    return inner_of((up[0], up[1], 1), point)


def _lowest_and_highest(section, up):
    """The least and the greatest height of a section's points, unchecked."""
    low = high = _height(up, section[0])
    for corner in section[1:]:
        at = _height(up, corner)
        low = at if order(at, low) < 0 else low
        high = at if order(high, at) < 0 else high
    return (low, high)


def heights(section, up):
    """The pair of the least and the greatest height of the section's points."""
    check_section(section)
    check_direction(up)
    return _lowest_and_highest(section, up)


def _is_between(section, up, height):
    """Whether a height is above the least and below the greatest one."""
    low, high = _lowest_and_highest(section, up)
    return order(low, height) < 0 and order(height, high) < 0


def _stand_at(section, up, height):
    """The stand at a height between the least and the greatest one."""
    marks = [_height(up, corner) for corner in section]
    left = right = None
    for k, mark in enumerate(marks):
        after = marks[(k + 1) % len(marks)]
        if order(height, mark) <= 0 and order(after, height) < 0:
            left = (k, ratio_quotient(ratio_gap(mark, height), ratio_gap(mark, after)))
        if order(mark, height) <= 0 and order(height, after) < 0:
            right = (k, ratio_quotient(ratio_gap(height, mark), ratio_gap(after, mark)))
    return (left, right)


def line_at(section, up, height):
    """The stand with this up whose water line has this height."""
    check_section(section)
    check_direction(up)
    check_fraction(height)
    if not _is_between(section, up, height):
        raise OffSection(height)
    return _stand_at(section, up, height)


def line_through(section, up, point):
    """The stand with this up whose water line has the height of the point."""
    check_section(section)
    check_direction(up)
    check_point(point)
    height = _height(up, point)
    if not _is_between(section, up, height):
        raise OffSection(point)
    return _stand_at(section, up, height)


def area_below(section, up, height):
    """The area of all points of the section whose height is at most this one."""
    check_section(section)
    check_direction(up)
    check_fraction(height)
    if _is_between(section, up, height):
        return wet_area(section, _stand_at(section, up, height))
    low, _ = _lowest_and_highest(section, up)
    return (0, 1) if order(height, low) <= 0 else polygon_area(section)


def is_stand(section, value):
    """Whether a value, whatever it is, is a stand of the section."""
    check_section(section)
    return stand_fits(section, value)


def ends_of(section, stand):
    """The points at the left end and at the right one."""
    check_section(section)
    check_stand(section, stand)
    return end_points(section, stand)


def up_of(section, stand):
    """The up of a stand."""
    check_section(section)
    check_stand(section, stand)
    return stand_up(section, stand)


def area_of_stand(section, stand):
    """The area under water."""
    check_section(section)
    check_stand(section, stand)
    return wet_area(section, stand)


def wet_part(section, stand):
    """The polygon under water, with the water line."""
    check_section(section)
    check_stand(section, stand)
    return wet_polygon(section, stand)


def dry_part(section, stand):
    """The polygon above the water, with the water line."""
    check_section(section)
    check_stand(section, stand)
    return wet_polygon(section, turned_back(stand))


def wet_corners(section, stand):
    """The ascending indexes of the corners under water, not on the water line."""
    check_section(section)
    check_stand(section, stand)
    return tuple(sorted(wet_indexes(section, stand)))
