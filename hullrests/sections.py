"""Polygons and sections, and the points of a section's rim."""

from hullrests.checks import check_fraction, check_point, check_points, check_polygon, check_rim, check_section
from hullrests.errors import InvalidFraction, NoArea
from hullrests.kinds import polygon_fits, rim_fits, section_fits
from hullrests.plane import place_sum, place_times, quarter_of
from hullrests.polygons import has_inside, has_point, hull_of, polygon_area, polygon_middle
from hullrests.rims import rim_point, rim_point_at


def is_section(value):
    """Whether a value, whatever it is, is a section."""
    return section_fits(value)


def is_polygon(value):
    """Whether a value, whatever it is, is a polygon."""
    return polygon_fits(value)


def polygon_of(points):
    """The hull of the points."""
    check_points(points)
    return hull_of(points)


def section_of(points):
    """The hull of points that has an area."""
    check_points(points)
    found = hull_of(points)
    if len(found) < 3:
        raise NoArea()
    return found


def area_of(polygon):
    """The area of a polygon."""
    check_polygon(polygon)
    return polygon_area(polygon)


def middle_of(section):
    """The middle of a section's weight."""
    check_section(section)
    return polygon_middle(section)


def holds(polygon, point):
    """Whether the polygon has the point, its rim counted."""
    check_polygon(polygon)
    check_point(point)
    return has_point(polygon, point)


def is_inside(section, point):
    """Whether the section has the point, not on its rim."""
    check_section(section)
    check_point(point)
    return has_inside(section, point)


def moved(section, way):
    """The section with the way added to each corner."""
    check_section(section)
    check_point(way)
    return hull_of([place_sum(corner, way) for corner in section])


def turned(section):
    """The section with each corner turned a quarter about nought."""
    check_section(section)
    return hull_of([quarter_of(corner) for corner in section])


def mirrored(section):
    """The section with the other sign of each x."""
    check_section(section)
    return hull_of([(-x, y, w) for x, y, w in section])


def grown(section, fraction):
    """The section with each corner times the fraction, which is above 0."""
    check_section(section)
    check_fraction(fraction)
    if fraction[0] <= 0:
        raise InvalidFraction(fraction)
    return hull_of([place_times(corner, fraction) for corner in section])


def is_rim_point(section, value):
    """Whether a value, whatever it is, is a rim point of the section."""
    check_section(section)
    return rim_fits(section, value)


def on_rim(section, rim):
    """The point at a rim point."""
    check_section(section)
    check_rim(section, rim)
    return rim_point(section, rim)


def rim_of(section, point):
    """The rim point at a point, None if it is not on the rim."""
    check_section(section)
    check_point(point)
    return rim_point_at(section, point)
