"""A section at one heel, between the heights of neighbouring corners; nothing is checked here.

A point is told here by its breadth, the inner product with the way (s, -c, 1) for the up (c, s), and its height. So a
section becomes one that is level, and all areas are c * c + s * s times as great.
"""

from hullrests.lines import height_along
from hullrests.polygons import on_scale
from hullrests.ratios import order, ratio, ratio_gap
from hullrests.series import series_by, series_from, series_gap, series_product, series_row, series_sum, series_worth


def breadth_along(up, point):
    """The breadth of a point at the heel with this up."""
    return height_along((up[1], -up[0]), point)


def _side(spots, scale, low, high):
    """The breadth, as a series in the height, of the edge that falls from high or above down to low or below."""
    for k, (u, v) in enumerate(spots):
        p, q = spots[(k + 1) % len(spots)]
        if q <= low and high <= v:
            return [ratio(p * v - u * q, (v - q) * scale), ratio(u - p, v - q)]
    return None


def slabs_of(section, up):
    """The tuples (LOW, HIGH, MIDDLE, WIDTH) between the heights of neighbouring corners, the least ones first.

    MIDDLE and WIDTH are series in the height: the breadth of the water line's middle, and how much its right end has
    more of it than its left end.
    """
    c, s = up
    spots, scale = on_scale(section)
    spots = [(s * x - c * y, c * x + s * y) for x, y in spots]
    marks = sorted([v for u, v in spots])
    found = []
    for low, high in zip(marks, marks[1:]):
        if low < high:
            left = _side(spots, scale, low, high)
            right = _side(spots[::-1], scale, low, high)
            middle = series_by(series_sum(left, right), (1, 2))
            found.append((ratio(low, scale), ratio(high, scale), middle, series_gap(right, left)))
    return found


def slabs_up_to(slabs, height):
    """The slabs below a height, the last one up to it."""
    found = []
    for low, high, middle, width in slabs:
        if order(low, height) < 0:
            found.append((low, height if order(height, high) < 0 else high, middle, width))
    return found


def slabs_from(slabs, height):
    """The slabs above a height, the first one from it on."""
    found = []
    for low, high, middle, width in slabs:
        if order(height, high) < 0:
            found.append((height if order(low, height) < 0 else low, high, middle, width))
    return found


def turning_parts(slabs, breadth, start):
    """The tuples (LOW, HIGH, SERIES): the moment of what the slabs add to the water about a breadth, and the start."""
    found = []
    for low, high, middle, width in slabs:
        arm = series_gap(middle, [breadth])
        moment = series_from(series_product(width, arm), low, start)
        found.append((low, high, moment))
        start = series_worth(moment, high)
    return found


def firmness_parts(slabs, height):
    """The same about a height, from nought on, with a twelfth of the third power of the width."""
    found, start = [], (0, 1)
    for low, high, middle, width in slabs:
        rise = [ratio_gap((0, 1), height), (1, 1)]
        moment = series_from(series_product(width, rise), low, start)
        cube = series_product(width, series_product(width, width))
        found.append((low, high, series_sum(moment, series_by(cube, (1, 12)))))
        start = series_worth(moment, high)
    return found


def profile_of(parts):
    """The profile of parts (LOW, HIGH, SERIES)."""
    return tuple([(low, high, series_row(one)) for low, high, one in parts])
