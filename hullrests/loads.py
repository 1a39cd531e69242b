"""What loads, lifts and a flooded part change, and how a section stands on a dry floor."""

from hullrests.balance import rest_line
from hullrests.checks import check_fraction, check_index, check_log, check_point, check_polygon, check_section
from hullrests.checks import check_stand
from hullrests.errors import InvalidSection, Lifted, NotInside, Same, Sunk
from hullrests.plane import inner_of, place_sum, place_times, way_to
from hullrests.polygons import cut_on, has_inside, hull_of, polygon_area
from hullrests.ratios import order, ratio_gap, ratio_product, ratio_quotient, ratio_sum, sign_of
from hullrests.rims import turned_back, wet_area, wet_polygon


def _area_with(log, weight):
    """The log's area with a weight more; Sunk or Lifted if it does not float with this area."""
    section, area, ballast = log
    found = ratio_sum(area, weight)
    if order(polygon_area(section), found) <= 0:
        raise Sunk(found)
    if found[0] <= 0:
        raise Lifted(found)
    return found


def _ballast_with(log, weight, place, area):
    """The log's ballast with a weight at a place, the area then being the one that is told."""
    _, floats, ballast = log
    return place_times(place_sum(place_times(ballast, floats), place_times(place, weight)), (area[1], area[0]))


def loaded(log, weight, place):
    """The log with a load at a place; with a weight below 0 it is lifted off there."""
    check_log(log)
    check_fraction(weight)
    check_point(place)
    area = _area_with(log, weight)
    return (log[0], area, _ballast_with(log, weight, place, area))


def shifted(log, weight, place, other):
    """The log after a weight is shifted from the place to the other one."""
    check_log(log)
    check_fraction(weight)
    check_point(place)
    check_point(other)
    section, area, ballast = log
    return (section, area, place_sum(ballast, place_times(way_to(place, other), ratio_quotient(weight, area))))


def lot_loaded(log, weight, deck):
    """The area, and all ballast that the log can have, when the load is put at some place of the deck."""
    check_log(log)
    check_fraction(weight)
    check_polygon(deck)
    area = _area_with(log, weight)
    return (area, hull_of([_ballast_with(log, weight, corner, area) for corner in deck]))


def _balancing_line(log, weight, line, area):
    """The line of all places at which a load brings the ballast onto a line, the area then being the one told."""
    _, floats, ballast = log
    a, b, h = line
    # The moment that the load has along (a, b) is what the log lacks with the area that is told.
    lacking = ratio_gap(ratio_product((h, 1), area), ratio_product(inner_of((a, b, 1), ballast), floats))
    n, m = ratio_quotient(lacking, weight)
    return (a * m, b * m, n)


def balancing_part(log, stand, deck):
    """All places of the deck at which a load that brings the log's area to the stand's makes it a rest, or None."""
    check_log(log)
    section, floats, ballast = log
    check_stand(section, stand)
    check_polygon(deck)
    area = wet_area(section, stand)
    if area == floats:
        raise Same(area)
    return cut_on(deck, _balancing_line(log, ratio_gap(area, floats), rest_line(section, stand), area))


def flooded(log, stand):
    """The log behind a bulkhead: what lies to the right of the stand's water line is open to the water."""
    check_log(log)
    section, area, ballast = log
    check_stand(section, stand)
    part = wet_polygon(section, turned_back(stand))
    if order(polygon_area(part), area) <= 0:
        raise Sunk(area)
    if len(part) > 8:
        raise InvalidSection(part)
    return (part, area, ballast)


def _check_inside(section, ballast):
    """The checks of a section and of a ballast strictly inside it."""
    check_section(section)
    check_point(ballast)
    if not has_inside(section, ballast):
        raise NotInside(ballast)


def _word_on_floor(section, ballast, edge):
    """The word of a section that stands on an edge."""
    corner = section[edge]
    way = way_to(corner, section[(edge + 1) % len(section)])
    along = inner_of(way, way_to(corner, ballast))
    ahead, behind = sign_of(along[0]), order(along, inner_of(way, way))
    if ahead < 0:
        return "left"
    if behind > 0:
        return "right"
    return "tipping" if ahead == 0 or behind == 0 else "firm"


def floor_word(section, ballast, edge):
    """`firm`, `tipping`, `left` or `right`, as the section stands on this edge on a level dry floor, or rolls."""
    _check_inside(section, ballast)
    check_index(len(section), edge)
    return _word_on_floor(section, ballast, edge)


def rolls(section, ballast, edge):
    """The edges on which it stands, from this one on, up to the first that is firm or tipping."""
    _check_inside(section, ballast)
    check_index(len(section), edge)
    found = [edge]
    word = _word_on_floor(section, ballast, edge)
    while word in ("left", "right"):
        found.append((found[-1] + (1 if word == "right" else -1)) % len(section))
        word = _word_on_floor(section, ballast, found[-1])
    return tuple(found)


def firm_edges(section, ballast):
    """The ascending indexes of the edges on which the section stands firmly."""
    _check_inside(section, ballast)
    return tuple([k for k in range(len(section)) if _word_on_floor(section, ballast, k) == "firm"])
