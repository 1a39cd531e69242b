"""Checks of arguments: each one raises the error of its kind, or nothing."""

from hullrests.errors import InvalidArc, InvalidArea, InvalidDirection, InvalidFraction, InvalidIndex, InvalidLog
from hullrests.errors import InvalidNote, InvalidNotes, InvalidNumber, InvalidNumbers, InvalidPoint, InvalidPoints
from hullrests.errors import InvalidPolygon, InvalidRimPoint, InvalidRow, InvalidSection, InvalidStand, InvalidWord
from hullrests.errors import NotAhead
from hullrests.kinds import arc_fits, area_fits, direction_fits, fraction_fits, log_fits, note_fits, numbers_fit
from hullrests.kinds import point_fits, polygon_fits, rim_fits, row_fits, section_fits, stand_fits, whole_up_to
from hullrests.kinds import word_fits
from hullrests.ratios import order


def check_fraction(value):
    """InvalidFraction for no fraction."""
    if not fraction_fits(value):
        raise InvalidFraction(value)


def check_point(value):
    """InvalidPoint for no point."""
    if not point_fits(value):
        raise InvalidPoint(value)


def check_direction(value):
    """InvalidDirection for no direction."""
    if not direction_fits(value):
        raise InvalidDirection(value)


def check_points(value):
    """InvalidPoints: None for no tuple or (), else the first element that is no point, or the ninth."""
    if not isinstance(value, tuple) or not value:
        raise InvalidPoints(None)
    for k, point in enumerate(value):
        if k == 8 or not point_fits(point):
            raise InvalidPoints(k)


def check_polygon(value):
    """InvalidPolygon for no polygon."""
    if not polygon_fits(value):
        raise InvalidPolygon(value)


def check_section(value):
    """InvalidSection for no section."""
    if not section_fits(value):
        raise InvalidSection(value)


def check_area(section, value):
    """InvalidArea for no fraction above 0 and below the section's area."""
    if not area_fits(section, value):
        raise InvalidArea(value)


def check_rim(section, value):
    """InvalidRimPoint for no rim point of the section."""
    if not rim_fits(section, value):
        raise InvalidRimPoint(value)


def check_stand(section, value):
    """InvalidStand for no stand of the section."""
    if not stand_fits(section, value):
        raise InvalidStand(value)


def check_arc(section, value):
    """InvalidArc for no arc of the section."""
    if not arc_fits(section, value):
        raise InvalidArc(value)


def check_note(section, value):
    """InvalidNote for no note of the section."""
    if not note_fits(section, value):
        raise InvalidNote(value)


def check_notes(section, value):
    """InvalidNotes: None for no tuple, else the first element that is no note of the section, or the 13th."""
    if not isinstance(value, tuple):
        raise InvalidNotes(None)
    for k, note in enumerate(value):
        if k == 12 or not note_fits(section, note):
            raise InvalidNotes(k)


def check_log(value):
    """InvalidLog for no log."""
    if not log_fits(value):
        raise InvalidLog(value)


def check_row(value):
    """InvalidRow for no row."""
    if not row_fits(value):
        raise InvalidRow(value)


def check_numbers(value):
    """InvalidNumbers for no tuple of at most 13 whole numbers."""
    if not numbers_fit(value):
        raise InvalidNumbers(value)


def check_ahead(low, high):
    """NotAhead with high if it is below low."""
    if order(high, low) < 0:
        raise NotAhead(high)


def check_many(value):
    """InvalidNumber for no whole number from 1 to 10 ** 12."""
    if not whole_up_to(value, 1, 10 ** 12):
        raise InvalidNumber(value)


def check_index(many, value):
    """InvalidIndex for no index of so many things."""
    if not whole_up_to(value, 0, many - 1):
        raise InvalidIndex(value)


def check_word(words, value):
    """InvalidWord for none of the words."""
    if not word_fits(words, value):
        raise InvalidWord(value)
