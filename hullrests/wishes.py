"""Wishes about a log: whether a value is one, and whether a log keeps it."""

from hullrests.draughts import is_always_level
from hullrests.drypoints import wet_words
from hullrests.kinds import arc_fits, direction_fits, marks_fit, name_fits, point_fits, polygon_fits, stand_fits
from hullrests.kinds import word_fits
from hullrests.lots import is_trap, words_on
from hullrests.rests import has_one_pose, kind_of
from hullrests.rims import wet_area

FORMS = {"one pose": 2, "firm": 3, "unturned": 4, "unseen": 4, "trap": 4, "level": 3}
TURNS = ("left", "right")
SIGHTS = ("dry", "wet")


def _arc_of_marks_fits(value):
    """Whether it is None or a pair of marks."""
    return value is None or marks_fit(value)


def _told_fits(form, told):
    """Whether what a wish of this form tells behind the name is as it should be."""
    if form == "firm":
        return marks_fit(told[0])
    if form == "unturned":
        return _arc_of_marks_fits(told[0]) and word_fits(TURNS, told[1])
    if form == "unseen":
        return point_fits(told[0]) and word_fits(SIGHTS, told[1])
    if form == "trap":
        return _arc_of_marks_fits(told[0]) and polygon_fits(told[1])
    return form == "one pose" or direction_fits(told[0])


def wish_fits(value):
    """Whether it is told in one of the forms of wishes."""
    if not isinstance(value, tuple) or len(value) < 2:
        return False
    form = value[0]
    if not isinstance(form, str) or form not in FORMS or len(value) != FORMS[form]:
        return False
    return name_fits(value[1]) and _told_fits(form, value[2:])


def _is_firm(log, stand):
    """Whether the marks are a firm rest of the log."""
    section, area, ballast = log
    return stand_fits(section, stand) and wet_area(section, stand) == area and kind_of(log, stand) == "firm"


def wish_holds(wish, log):
    """Whether a wish holds for the log that it names."""
    form, told = wish[0], wish[2:]
    section, area, ballast = log
    if form == "one pose":
        return has_one_pose(log)
    if form == "firm":
        return _is_firm(log, told[0])
    if form == "unturned":
        return arc_fits(section, told[0]) and told[1] not in words_on(section, area, (ballast,), told[0])
    if form == "unseen":
        return told[1] not in wet_words(section, area, told[0], None)
    if form == "trap":
        return arc_fits(section, told[0]) and is_trap(section, area, told[1], told[0])
    return is_always_level(section, told[0], ballast)
