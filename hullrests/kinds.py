"""Whether a value, whatever it is, is of a kind; what is told beside it is of its own kind."""

from math import gcd

from hullrests.polygons import hull_of, polygon_area
from hullrests.ratios import common_divisor, order
from hullrests.rims import share_edge

SAYINGS = ("left", "right", "rest", "firm", "tipping", "sliding")
LETTERS = "abcdefghijklmnopqrstuvwxyz"


def is_whole(value):
    """Whether it is a whole number, which True and False are not."""
    return isinstance(value, int) and not isinstance(value, bool)


def whole_up_to(value, least, most):
    """Whether it is a whole number from the least up to the most."""
    return is_whole(value) and least <= value <= most


def wholes_fit(value):
    """Whether it is a tuple of whole numbers."""
    return isinstance(value, tuple) and all([is_whole(number) for number in value])


def parts_fit(value, many):
    """Whether it is a tuple of so many values."""
    return isinstance(value, tuple) and len(value) == many


def pair_fits(value):
    """Whether it is a tuple of two values."""
    return parts_fit(value, 2)


def fraction_fits(value):
    """Whether it is a fraction."""
    return wholes_fit(value) and len(value) == 2 and value[1] > 0 and gcd(value[0], value[1]) == 1


def point_fits(value):
    """Whether it is a point."""
    return wholes_fit(value) and len(value) == 3 and value[2] > 0 and common_divisor(value) == 1


def direction_fits(value):
    """Whether it is a direction."""
    return wholes_fit(value) and len(value) == 2 and gcd(value[0], value[1]) == 1


def polygon_fits(value):
    """Whether it is a polygon."""
    if not isinstance(value, tuple) or not value:
        return False
    return all([point_fits(corner) for corner in value]) and hull_of(value) == value


def section_fits(value):
    """Whether it is a section."""
    return isinstance(value, tuple) and 3 <= len(value) <= 8 and polygon_fits(value)


def area_fits(section, value):
    """Whether it is a fraction above 0 and below the area of the section."""
    return fraction_fits(value) and value[0] > 0 and order(value, polygon_area(section)) < 0


def share_fits(value):
    """Whether it is a fraction from (0, 1) on, below (1, 1)."""
    return fraction_fits(value) and 0 <= value[0] < value[1]


def mark_fits(value):
    """Whether it is a mark: a rim point of some section."""
    return pair_fits(value) and whole_up_to(value[0], 0, 7) and share_fits(value[1])


def marks_fit(value):
    """Whether it is a pair of marks."""
    return pair_fits(value) and mark_fits(value[0]) and mark_fits(value[1])


def rim_fits(section, value):
    """Whether it is a rim point of the section."""
    return mark_fits(value) and value[0] < len(section)


def rims_fit(section, value):
    """Whether it is a pair of rim points of the section."""
    return pair_fits(value) and rim_fits(section, value[0]) and rim_fits(section, value[1])


def stand_fits(section, value):
    """Whether it is a stand of the section."""
    return rims_fit(section, value) and not share_edge(section, value[0], value[1])


def arc_fits(section, value):
    """Whether it is an arc of the section."""
    return value is None or rims_fit(section, value)


def note_fits(section, value):
    """Whether it is a note of the section."""
    return pair_fits(value) and word_fits(SAYINGS, value[0]) and stand_fits(section, value[1])


def notes_fit(section, value):
    """Whether it is a tuple of at most twelve notes of the section."""
    return isinstance(value, tuple) and len(value) <= 12 and all([note_fits(section, note) for note in value])


def log_fits(value):
    """Whether it is a log."""
    if not parts_fit(value, 3):
        return False
    return section_fits(value[0]) and area_fits(value[0], value[1]) and point_fits(value[2])


def numbers_fit(value):
    """Whether it is a tuple of at most 13 whole numbers."""
    return isinstance(value, tuple) and len(value) <= 13 and wholes_fit(value)


def row_fits(value):
    """Whether it is a row."""
    return numbers_fit(value) and (not value or value[-1] != 0)


def word_fits(words, value):
    """Whether it is one of these words."""
    return isinstance(value, str) and value in words


def name_fits(value):
    """Whether it is a name: 1 to 12 letters from a to z."""
    return isinstance(value, str) and 1 <= len(value) <= 12 and all([sign in LETTERS for sign in value])
