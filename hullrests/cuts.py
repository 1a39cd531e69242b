"""Stands as water lines through a section."""

from hullrests.checks import check_direction, check_fraction, check_point, check_section, check_stand
from hullrests.errors import OffSection
from hullrests.kinds import stand_fits
from hullrests.lines import area_under, height_along, is_between, lowest_and_highest, stand_at_height
from hullrests.rims import end_points, stand_up, turned_back, wet_area, wet_indexes, wet_polygon


def height_of(up, point):
    """The height of a point along an up."""
    check_direction(up)
    check_point(point)
    return height_along(up, point)


def heights(section, up):
    """The pair of the least and the greatest height of the section's points."""
    check_section(section)
    check_direction(up)
    return lowest_and_highest(section, up)


def line_at(section, up, height):
    """The stand with this up whose water line has this height."""
    check_section(section)
    check_direction(up)
    check_fraction(height)
    if not is_between(section, up, height):
        raise OffSection(height)
    return stand_at_height(section, up, height)


def line_through(section, up, point):
    """The stand with this up whose water line has the height of the point."""
    check_section(section)
    check_direction(up)
    check_point(point)
    height = height_along(up, point)
    if not is_between(section, up, height):
        raise OffSection(point)
    return stand_at_height(section, up, height)


def area_below(section, up, height):
    """The area of all points of the section whose height is at most this one."""
    check_section(section)
    check_direction(up)
    check_fraction(height)
    return area_under(section, up, height)


def is_stand(section, value):
    """Whether a value, whatever it is, is a stand of the section."""
    check_section(section)
    return stand_fits(section, value)


def ends_of(section, stand):
    """The points at the left end and at the right one."""
    check_section(section)
    check_stand(section, stand)
    return end_points(section, stand)


def up_of(section, stand):
    """The up of a stand."""
    check_section(section)
    check_stand(section, stand)
    return stand_up(section, stand)


def area_of_stand(section, stand):
    """The area under water."""
    check_section(section)
    check_stand(section, stand)
    return wet_area(section, stand)


def wet_part(section, stand):
    """The polygon under water, with the water line."""
    check_section(section)
    check_stand(section, stand)
    return wet_polygon(section, stand)


def dry_part(section, stand):
    """The polygon above the water, with the water line."""
    check_section(section)
    check_stand(section, stand)
    return wet_polygon(section, turned_back(stand))


def wet_corners(section, stand):
    """The ascending indexes of the corners under water, not on the water line."""
    check_section(section)
    check_stand(section, stand)
    return tuple(sorted(wet_indexes(section, stand)))
