"""Which points are dry or wet: at a stand, along an arc of stands, and at all heels."""

from hullrests.checks import check_arc, check_area, check_index, check_many, check_point, check_points, check_section
from hullrests.checks import check_stand, check_word
from hullrests.curves import arc_wetness
from hullrests.errors import NotInside
from hullrests.lines import height_along, stand_at_height
from hullrests.plane import excess, line_through_both, side_of, way_to
from hullrests.polygons import has_inside
from hullrests.polys import row_by
from hullrests.ratios import common_divisor, order
from hullrests.rims import end_points, rim_on, rim_order, stand_ahead, wet_area
from hullrests.roots import none_below_somewhere, sample_with
from hullrests.tales import begins_near, signs_along, without_last

WORDS = ("dry", "wet")


def _word(sign):
    """The word of a point: above 0 it lies to the left of the water line's way."""
    if sign == 0:
        return "rim"
    return "dry" if sign > 0 else "wet"


def wetness(section, stand, point):
    """`dry`, `rim` or `wet`, as the point is above the water line, on it, or below it."""
    check_section(section)
    check_stand(section, stand)
    check_point(point)
    left, right = end_points(section, stand)
    return _word(side_of(left, right, point))


def _check_on_arc(section, area, point, arc):
    """The checks of a point along an arc."""
    check_section(section)
    check_area(section, area)
    check_point(point)
    check_arc(section, arc)


def _elements(parts, arc):
    """The elements of a wet tale, each with where it begins."""
    told = signs_along(parts)
    # Once round, what is told of the last left end is told of corner 0 again.
    return without_last(parts, told) if arc is None else told


def wet_words(section, area, point, arc):
    """The words of the point that come at some stand of the arc."""
    _check_on_arc(section, area, point, arc)
    came = [_word(sign) for sign, part, root in signs_along(arc_wetness(section, area, arc, point))]
    return tuple([word for word in ("dry", "rim", "wet") if word in came])


def wet_tale(section, area, point, arc):
    """The words of the point along the arc, neighbours that are alike told once."""
    _check_on_arc(section, area, point, arc)
    told = _elements(arc_wetness(section, area, arc, point), arc)
    return tuple([_word(sign) for sign, part, root in told])


def wet_change(section, area, point, arc, index, many):
    """Where the element of the wet tale with this index begins: (EDGE, n, IS_JUST)."""
    _check_on_arc(section, area, point, arc)
    parts = arc_wetness(section, area, arc, point)
    told = _elements(parts, arc)
    check_index(len(told), index)
    check_many(many)
    n, is_just = begins_near(parts, told[index], many)
    edge = parts[told[index][1]][0]
    # A change at the end of an edge is one at the corner with which the next edge begins.
    return (edge, n, is_just) if n < many else ((edge + 1) % len(section), 0, is_just)


def stand_with(section, area, point, arc, word):
    """A stand of the arc at which the point has the word; None if there is none."""
    _check_on_arc(section, area, point, arc)
    check_word(WORDS, word)
    for edge, low, high, row in arc_wetness(section, area, arc, point):
        share = sample_with(row, low, high, 1 if word == "dry" else -1)
        if share is not None:
            return stand_ahead(section, area, rim_on(section, edge, share))
    return None


def _ways_through(section, point):
    """Ways along the lines through the point that end at a corner, or are halved by it between two edges."""
    found = [way_to(corner, point)[:2] for corner in section]
    sides = [line_through_both(section[k - 1], corner) for k, corner in enumerate(section)]
    for k, (a, b, _) in enumerate(sides):
        for j, (c, d, _) in enumerate(sides[:k]):
            if a * d != b * c:
                # With u the way, point + u lies on the first line, point - u on the other one.
                gap, other = -excess(sides[k], point), excess(sides[j], point)
                found.append((gap * d - b * other, a * other - gap * c))
    return found


def _stands_through(section, point):
    """The stands, either way round, with these lines as their water lines."""
    found = []
    for x, y in _ways_through(section, point):
        divisor = common_divisor((x, y))
        for up in ((-y // divisor, x // divisor), (y // divisor, -x // divisor)):
            found.append(stand_at_height(section, up, height_along(up, point)))
    return found


def _first_below(section, point, turn):
    """The pair (AREA, STAND) with the least area below the point (turn 1) or the greatest one (-1)."""
    check_section(section)
    check_point(point)
    if not has_inside(section, point):
        raise NotInside(point)
    best = None
    for stand in _stands_through(section, point):
        area = wet_area(section, stand)
        ahead = -1 if best is None else order(area, best[0]) * turn
        if ahead < 0 or (ahead == 0 and rim_order(stand[0], best[1][0]) < 0):
            best = (area, stand)
    return best


def least_below(section, point):
    """The least area below the point at any heel, and the first stand through it with this area."""
    return _first_below(section, point, 1)


def greatest_below(section, point):
    """The greatest area below the point at any heel, and the first stand through it with this area."""
    return _first_below(section, point, -1)


def is_vented(section, area, points, arc):
    """Whether at each stand of the arc some of the points is dry."""
    check_section(section)
    check_area(section, area)
    check_points(points)
    check_arc(section, arc)
    # Each point has the same stretches: none is dry where no row, its signs changed, is below 0.
    parts = [arc_wetness(section, area, arc, point) for point in points]
    for k, (edge, low, high, row) in enumerate(parts[0]):
        if none_below_somewhere([row_by(each[k][3], -1) for each in parts], low, high):
            return False
    return True
