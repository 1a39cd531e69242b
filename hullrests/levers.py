"""Which way the water turns a log at a stand, and how high its ballast lies there."""

from hullrests.balance import lever_of, rise_of, word_of
from hullrests.checks import check_point, check_section, check_stand
from hullrests.plane import inner_of
from hullrests.ratios import order, ratio_product, ratio_quotient, sign_of
from hullrests.rims import water_way, wet_middle


def middle_below(section, stand):
    """The middle of what is under water."""
    check_section(section)
    check_stand(section, stand)
    return wet_middle(section, stand)


def lever(section, ballast, stand):
    """The inner product of the way from the left end to the right one and this middle less the ballast."""
    check_section(section)
    check_point(ballast)
    check_stand(section, stand)
    return lever_of(section, ballast, stand)


def word_at(section, ballast, stand):
    """The word of the lever."""
    check_section(section)
    check_point(ballast)
    check_stand(section, stand)
    return word_of(sign_of(lever_of(section, ballast, stand)[0]))


def rise(section, ballast, stand):
    """The height of the ballast above the middle under water, times the length of the water line."""
    check_section(section)
    check_point(ballast)
    check_stand(section, stand)
    return rise_of(section, ballast, stand)


def _square_height(section, ballast, stand):
    """The square of the true height, with the sign of the height."""
    found, way = rise_of(section, ballast, stand), water_way(section, stand)
    square = ratio_quotient(ratio_product(found, found), inner_of(way, way))
    return ratio_product((sign_of(found[0]), 1), square)


def compare(section, ballast, stand, other):
    """`lower`, `higher` or `same`, as the ballast's true height at the stand is beside that at the other one."""
    check_section(section)
    check_point(ballast)
    check_stand(section, stand)
    check_stand(section, other)
    found = order(_square_height(section, ballast, stand), _square_height(section, ballast, other))
    if found == 0:
        return "same"
    return "lower" if found < 0 else "higher"
