"""Water lines told by an up and a height; nothing is checked here."""

from hullrests.plane import inner_of
from hullrests.polygons import polygon_area
from hullrests.ratios import order, ratio_gap, ratio_quotient
from hullrests.rims import wet_area


def height_along(up, point):
    """The height of a point along an up."""
    return inner_of((up[0], up[1], 1), point)


def lowest_and_highest(section, up):
    """The least and the greatest height of a section's points."""
    low = high = height_along(up, section[0])
    for corner in section[1:]:
        at = height_along(up, corner)
        low = at if order(at, low) < 0 else low
        high = at if order(high, at) < 0 else high
    return (low, high)


def is_between(section, up, height):
    """Whether a height is above the least and below the greatest one."""
    low, high = lowest_and_highest(section, up)
    return order(low, height) < 0 and order(height, high) < 0


def stand_at_height(section, up, height):
    """The stand at a height above the least and below the greatest one."""
    marks = [height_along(up, corner) for corner in section]
    left = right = None
    for k, mark in enumerate(marks):
        after = marks[(k + 1) % len(marks)]
        if order(height, mark) <= 0 and order(after, height) < 0:
            left = (k, ratio_quotient(ratio_gap(mark, height), ratio_gap(mark, after)))
        if order(mark, height) <= 0 and order(height, after) < 0:
            right = (k, ratio_quotient(ratio_gap(height, mark), ratio_gap(after, mark)))
    return (left, right)


def area_under(section, up, height):
    """The area of all points of the section whose height is at most this one."""
    low, high = lowest_and_highest(section, up)
    if order(height, low) <= 0:
        return (0, 1)
    return wet_area(section, stand_at_height(section, up, height)) if order(height, high) < 0 else polygon_area(section)
