"""Metacentres, and which ballast is firm at a stand."""

from hullrests.balance import firmness_of, metacentre_of, rest_line
from hullrests.checks import check_fraction, check_point, check_section, check_stand
from hullrests.plane import inner_of, place_times, quarter_of, way_to
from hullrests.ratios import ratio_quotient
from hullrests.rims import water_way


def metacentre(section, stand):
    """The metacentre of a stand."""
    check_section(section)
    check_stand(section, stand)
    return metacentre_of(section, stand)


def firmness(section, ballast, stand):
    """The firmness of a ballast at a stand."""
    check_section(section)
    check_point(ballast)
    check_stand(section, stand)
    return firmness_of(section, ballast, stand)


def ballast_line(section, stand):
    """The triple (a, b, h): a * x + b * y is h for the ballast that rests at the stand, below h with `left`."""
    check_section(section)
    check_stand(section, stand)
    return rest_line(section, stand)


def ballast_for(section, stand, fraction):
    """The ballast with which the stand is a rest and which has this firmness at it."""
    check_section(section)
    check_stand(section, stand)
    check_fraction(fraction)
    up = quarter_of(water_way(section, stand))
    below = place_times(up, ratio_quotient(fraction, inner_of(up, up)))
    return way_to(below, metacentre_of(section, stand))
