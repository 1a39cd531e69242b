"""Rim points, stands and what is under water at them; nothing is checked here."""

from hullrests.plane import cross_of, place_between, quarter_of, side_of, way_to
from hullrests.polygons import hull_of, polygon_area, polygon_middle
from hullrests.ratios import common_divisor, order, ratio, ratio_gap, ratio_product, ratio_quotient, sign_of


def rim_point(section, rim):
    """The point at a rim point."""
    edge, share = rim
    return place_between(section[edge], section[(edge + 1) % len(section)], share)


def rim_on(section, edge, share):
    """The rim point with a share of an edge, which may be (1, 1)."""
    if share == (1, 1):
        return ((edge + 1) % len(section), (0, 1))
    return (edge, share)


def rim_order(rim, other):
    """-1, 0 or 1, as the first one comes before the other, is the same, or comes behind it."""
    if rim[0] != other[0]:
        return sign_of(rim[0] - other[0])
    return order(rim[1], other[1])


def edges_at(section, rim):
    """The indexes of the edges on which it lies."""
    edge, share = rim
    if share == (0, 1):
        return (edge, (edge - 1) % len(section))
    return (edge,)


def share_edge(section, rim, other):
    """Whether both lie on one edge."""
    return any([edge in edges_at(section, other) for edge in edges_at(section, rim)])


def rim_point_at(section, point):
    """The rim point at a point, None if it is not on the rim."""
    for k, corner in enumerate(section):
        after = section[(k + 1) % len(section)]
        if side_of(corner, after, point) == 0:
            share = _share_of(way_to(corner, after), way_to(corner, point))
            if order((0, 1), share) <= 0 and order(share, (1, 1)) < 0:
                return (k, share)
    return None


def _share_of(way, part):
    """Which share of a way a part of it is, both on one line."""
    at = 0 if way[0] != 0 else 1
    return ratio(part[at] * way[2], way[at] * part[2])


def end_points(section, stand):
    """The points at the left end and at the right one."""
    return (rim_point(section, stand[0]), rim_point(section, stand[1]))


def wet_indexes(section, stand):
    """The indexes of the corners under water, not on the water line, in the order from left to right."""
    left, right = stand
    many = (right[0] - left[0]) % len(section)
    if right[1] == (0, 1):
        many = many - 1
    return [(left[0] + 1 + k) % len(section) for k in range(many)]


def turned_back(stand):
    """The stand with the same water line, the log upside down."""
    return (stand[1], stand[0])


def wet_polygon(section, stand):
    """What is under water."""
    left, right = end_points(section, stand)
    return hull_of([left, right] + [section[k] for k in wet_indexes(section, stand)])


def wet_area(section, stand):
    """The area of what is under water."""
    return polygon_area(wet_polygon(section, stand))


def wet_middle(section, stand):
    """The middle of what is under water."""
    return polygon_middle(wet_polygon(section, stand))


def water_way(section, stand):
    """The way from the left end to the right one."""
    left, right = end_points(section, stand)
    return way_to(left, right)


def stand_up(section, stand):
    """The direction of the water line's way, turned a quarter."""
    c, s, _ = quarter_of(water_way(section, stand))
    divisor = common_divisor((c, s))
    return (c // divisor, s // divisor)


def stand_ahead(section, area, left):
    """The stand with this area and this left end."""
    start = rim_point(section, left)
    wanted = ratio_product((2, 1), area)
    edge = (left[0] + 1) % len(section)
    while True:
        after = (edge + 1) % len(section)
        part = cross_of(way_to(start, section[edge]), way_to(start, section[after]))
        if order(wanted, part) < 0:
            return (left, (edge, ratio_quotient(wanted, part)))
        wanted = ratio_gap(wanted, part)
        edge = after


def stand_behind(section, area, right):
    """The stand with this area and this right end."""
    # Upside down the right end is the left one, and what was dry is under water.
    return turned_back(stand_ahead(section, ratio_gap(polygon_area(section), area), right))
