"""What all ballast of a lot does, at one stand or all along an arc of stands."""

from hullrests.balance import level_line, lever_of, rest_line, sign_for, words_of
from hullrests.checks import check_arc, check_area, check_polygon, check_section, check_stand, check_word
from hullrests.curves import arc_rows, lever_row, meeting_rows
from hullrests.polygons import cut_below, cut_on
from hullrests.polys import row_by
from hullrests.ratios import sign_of
from hullrests.rests import kinds_round
from hullrests.righting import righting_parts
from hullrests.rims import rim_on, stand_ahead
from hullrests.roots import none_below_somewhere, sample_with, tale_of

TURNS = ("left", "right")


def _words_there(section, stand, lot):
    """The words that come at a stand, unchecked."""
    return words_of([sign_of(lever_of(section, corner, stand)[0]) for corner in lot])


def words_at(section, stand, lot):
    """The words that come at a stand with some ballast of the lot."""
    check_section(section)
    check_stand(section, stand)
    check_polygon(lot)
    return _words_there(section, stand, lot)


def _check_on_arc(section, area, lot, arc):
    """The checks of a lot along an arc."""
    check_section(section)
    check_area(section, area)
    check_polygon(lot)
    check_arc(section, arc)


def words_on(section, area, lot, arc):
    """The words that come at some stand of the arc with some ballast of the lot."""
    _check_on_arc(section, area, lot, arc)
    signs = []
    for edge, low, high, rows in arc_rows(section, area, arc):
        for corner in lot:
            signs.extend(tale_of(lever_row(rows, area, corner), low, high))
    return words_of(signs)


def turned_at(section, area, lot, arc, word):
    """A stand of the arc and a corner of the lot with which it has the word; None if it does not come."""
    _check_on_arc(section, area, lot, arc)
    check_word(TURNS, word)
    for edge, low, high, rows in arc_rows(section, area, arc):
        for corner in lot:
            share = sample_with(lever_row(rows, area, corner), low, high, sign_for(word))
            if share is not None:
                return (stand_ahead(section, area, rim_on(section, edge, share)), corner)
    return None


def is_trap(section, area, lot, arc):
    """Whether a log whose left end is in the arc never leaves it, however its ballast is shifted within the lot."""
    _check_on_arc(section, area, lot, arc)
    if arc is None:
        return True
    first, last = arc
    if "left" in _words_there(section, stand_ahead(section, area, first), lot):
        return False
    return "right" not in _words_there(section, stand_ahead(section, area, last), lot)


def can_turn(section, area, lot, arc, word):
    """Whether the word comes with the lot at each stand of the arc."""
    _check_on_arc(section, area, lot, arc)
    check_word(TURNS, word)
    for edge, low, high, rows in arc_rows(section, area, arc):
        against = [row_by(lever_row(rows, area, corner), -sign_for(word)) for corner in lot]
        if none_below_somewhere(against, low, high):
            return False
    return True


def _resting(section, stand, lot):
    """The resting part, unchecked."""
    return cut_on(lot, rest_line(section, stand))


def resting_part(section, stand, lot):
    """All ballast of the lot with which the stand is a rest; None for nothing."""
    check_section(section)
    check_stand(section, stand)
    check_polygon(lot)
    return _resting(section, stand, lot)


def low_part(section, stand, lot):
    """What of the resting part has a firmness from 0 on; None for nothing."""
    check_section(section)
    check_stand(section, stand)
    check_polygon(lot)
    found = _resting(section, stand, lot)
    return None if found is None else cut_below(found, level_line(section, stand))


def _meets(section, area, lot, arc):
    """Whether some stand of the arc has its metacentre in the lot, unchecked."""
    for edge, low, high, rows in arc_rows(section, area, arc):
        if none_below_somewhere(meeting_rows(rows, area, lot), low, high):
            return True
    return False


def meets_metacentres(section, area, lot, arc):
    """Whether some stand of the arc has its metacentre in the lot, its rim counted."""
    _check_on_arc(section, area, lot, arc)
    return _meets(section, area, lot, arc)


def firm_for_all(section, area, lot):
    """How many firm rests each ballast of the lot has; None if some stand has its metacentre in the lot."""
    check_section(section)
    check_area(section, area)
    check_polygon(lot)
    if _meets(section, area, lot, None):
        return None
    return kinds_round(righting_parts((section, area, lot[0]))).count("firm")
