"""Polygons: their hulls, areas, middles and cuts; nothing is checked here."""

from math import lcm

from hullrests.plane import crossing, excess, line_through_both, opposite_line, place, way_to
from hullrests.ratios import ratio


def on_scale(points):
    """The points times one whole number, as pairs of whole numbers, and this number."""
    scale = 1
    for point in points:
        scale = lcm(scale, point[2])
    return ([(x * (scale // w), y * (scale // w)) for x, y, w in points], scale)


def twice_triangle(one, two, three):
    """Twice the area of a triangle of pairs; above 0 if they go counterclockwise."""
    return (two[0] - one[0]) * (three[1] - one[1]) - (two[1] - one[1]) * (three[0] - one[0])


def twice_area(spots):
    """Twice the area of a polygon of pairs."""
    return sum([twice_triangle(spots[0], one, two) for one, two in zip(spots[1:], spots[2:])])


def six_moments(spots):
    """Six times the area times the middle of a polygon of pairs."""
    first = spots[0]
    right, up = 0, 0
    for one, two in zip(spots[1:], spots[2:]):
        weight = twice_triangle(first, one, two)
        right = right + weight * (first[0] + one[0] + two[0])
        up = up + weight * (first[1] + one[1] + two[1])
    return (right, up)


def _left_bends(spots):
    """What is left of the spots if a way along them may only bend to the left."""
    kept = []
    for spot in spots:
        while len(kept) > 1 and twice_triangle(kept[-2], kept[-1], spot) <= 0:
            kept.pop()
        kept.append(spot)
    return kept


def hull_of(points):
    """The least polygon that has all these points (one or more)."""
    spots, scale = on_scale(points)
    spots = sorted(spots)
    unlike = [spot for k, spot in enumerate(spots) if k == 0 or spot != spots[k - 1]]
    if len(unlike) > 1:
        unlike = _left_bends(unlike)[:-1] + _left_bends(unlike[::-1])[:-1]
    return tuple([place(x, y, scale) for x, y in unlike])


def polygon_area(polygon):
    """The area, (0, 1) for a point or a stretch."""
    spots, scale = on_scale(polygon)
    return ratio(twice_area(spots), 2 * scale * scale)


def polygon_middle(polygon):
    """The middle of a polygon with three corners or more."""
    spots, scale = on_scale(polygon)
    right, up = six_moments(spots)
    return place(right, up, 3 * twice_area(spots) * scale)


def _end_line(point, other):
    """The line through the point, square to the way to the other one, which has a * x + b * y below h."""
    x, y, w = point
    way = way_to(point, other)
    return (-way[0] * w, -way[1] * w, -way[0] * x - way[1] * y)


def half_planes(polygon):
    """Lines such that the polygon has just the points with a * x + b * y up to h for each of them."""
    if len(polygon) == 1:
        x, y, w = polygon[0]
        return [(w, 0, x), (-w, 0, -x), (0, w, y), (0, -w, -y)]
    sides = [line_through_both(polygon[k - 1], corner) for k, corner in enumerate(polygon)]
    if len(polygon) == 2:
        return sides + [_end_line(polygon[0], polygon[1]), _end_line(polygon[1], polygon[0])]
    return sides


def has_point(polygon, point):
    """Whether the polygon has the point, its rim counted."""
    return all([excess(line, point) <= 0 for line in half_planes(polygon)])


def has_inside(section, point):
    """Whether the section has the point, its rim not counted."""
    return all([excess(line, point) < 0 for line in half_planes(section)])


def cut_below(polygon, line):
    """What of the polygon has a * x + b * y up to h; None for nothing."""
    found = []
    for k, corner in enumerate(polygon):
        before = polygon[k - 1]
        if excess(line, before) * excess(line, corner) < 0:
            found.append(crossing(line, before, corner))
        if excess(line, corner) <= 0:
            found.append(corner)
    return hull_of(found) if found else None


def cut_on(polygon, line):
    """What the polygon and the line have in common; None for nothing."""
    found = cut_below(polygon, line)
    return None if found is None else cut_below(found, opposite_line(line))
