"""Levers and metacentres at one stand; nothing is checked here."""

from hullrests.plane import inner_of, line_across, place_sum, place_times, quarter_of, way_to
from hullrests.ratios import ratio, ratio_product
from hullrests.rims import water_way, wet_area, wet_middle


def word_of(sign):
    """The word of a lever with this sign."""
    if sign == 0:
        return "rest"
    return "left" if sign > 0 else "right"


def sign_for(word):
    """The sign of a lever with the word `left` or `right`."""
    return 1 if word == "left" else -1


def words_of(signs):
    """The words that come where the levers of all corners of a lot have these signs."""
    least, most = min(signs), max(signs)
    found = []
    if most > 0:
        found.append("left")
    if least <= 0 <= most:
        found.append("rest")
    if least < 0:
        found.append("right")
    return tuple(found)


def kind_between(before, behind):
    """The kind of a rest with these signs of the lever before it and behind it."""
    if before == behind:
        return "sliding"
    return "firm" if before < 0 else "tipping"


def lever_of(section, ballast, stand):
    """The inner product of the water line's way and the middle of the water less the ballast."""
    return inner_of(water_way(section, stand), way_to(ballast, wet_middle(section, stand)))


def rise_of(section, ballast, stand):
    """The inner product of this way, turned a quarter, and the ballast less the middle of the water."""
    return inner_of(quarter_of(water_way(section, stand)), way_to(wet_middle(section, stand), ballast))


def metacentre_of(section, stand):
    """The metacentre of a stand."""
    way = water_way(section, stand)
    n, m = wet_area(section, stand)
    share = ratio_product(inner_of(way, way), ratio(m, 12 * n))
    return place_sum(wet_middle(section, stand), place_times(quarter_of(way), share))


def firmness_of(section, ballast, stand):
    """The inner product of the way, turned a quarter, and the metacentre less the ballast."""
    return inner_of(quarter_of(water_way(section, stand)), way_to(ballast, metacentre_of(section, stand)))


def rest_line(section, stand):
    """The line of all ballast with which the stand is a rest; below it the word is `left`."""
    return line_across(water_way(section, stand), wet_middle(section, stand))


def level_line(section, stand):
    """The line through the metacentre along the water line; below it, and on it, the firmness is from 0 on."""
    return line_across(quarter_of(water_way(section, stand)), metacentre_of(section, stand))
