"""All draughts at one heel: profiles of what turns the log, and of what holds it, over the height of the water line."""

from hullrests.balance import sign_for, words_of
from hullrests.checks import check_direction, check_fraction, check_index, check_many, check_point, check_polygon
from hullrests.checks import check_section, check_word
from hullrests.errors import OffSection
from hullrests.lines import height_along, is_between
from hullrests.polys import sign_at
from hullrests.ratios import order
from hullrests.roots import sample_inside
from hullrests.series import series_worth
from hullrests.slabs import breadth_along, firmness_parts, profile_of, slabs_from, slabs_of, slabs_up_to, turning_parts
from hullrests.tales import begins_near, signs_along, without_first, without_last

TURNS = ("left", "right")


def _turning(section, up, ballast):
    """The turning profile, unchecked."""
    return profile_of(turning_parts(slabs_of(section, up), breadth_along(up, ballast), (0, 1)))


def turning_profile(section, up, ballast):
    """The profile with the sign of the lever at each height."""
    check_section(section)
    check_direction(up)
    check_point(ballast)
    return _turning(section, up, ballast)


def firmness_profile(section, up, ballast):
    """The profile with the sign of the firmness at each height."""
    check_section(section)
    check_direction(up)
    check_point(ballast)
    return profile_of(firmness_parts(slabs_of(section, up), height_along(up, ballast)))


def loading_profile(section, up, height, ballast, place):
    """The profile of the lever from a height on, while more and more is loaded at a place."""
    check_section(section)
    check_direction(up)
    check_fraction(height)
    check_point(ballast)
    check_point(place)
    if not is_between(section, up, height):
        raise OffSection(height)
    slabs = slabs_of(section, up)
    low, high, moment = turning_parts(slabs_up_to(slabs, height), breadth_along(up, ballast), (0, 1))[-1]
    start = series_worth(moment, height)
    return profile_of(turning_parts(slabs_from(slabs, height), breadth_along(up, place), start))


def profile_sign(profile, height):
    """The sign of a profile at a height."""
    check_fraction(height)
    for low, high, row in profile:
        if order(low, height) <= 0 and order(height, high) <= 0:
            return sign_at(row, height)
    raise OffSection(height)


def _elements(profile):
    """The elements of a profile's tale, each with where it begins."""
    return without_last(profile, without_first(profile, signs_along(profile)))


def profile_tale(profile):
    """The signs of a profile between its ends, neighbours that are alike told once."""
    return tuple([sign for sign, part, root in _elements(profile)])


def change_near(profile, index, many):
    """Where the element of the tale with this index begins: (n, IS_JUST)."""
    told = _elements(profile)
    check_index(len(told), index)
    check_many(many)
    return begins_near(profile, told[index], many)


def is_always_level(section, up, ballast):
    """Whether the word is `rest` at all heights."""
    check_section(section)
    check_direction(up)
    check_point(ballast)
    return all([row == () for low, high, row in _turning(section, up, ballast)])


def words_at_up(section, up, lot):
    """The words that come at some height with some ballast of the lot."""
    check_section(section)
    check_direction(up)
    check_polygon(lot)
    signs = []
    for corner in lot:
        signs.extend(profile_tale(_turning(section, up, corner)))
    return words_of(signs)


def turned_height(section, up, lot, word):
    """A height and a corner of the lot with which it has the word; None if the word does not come."""
    check_section(section)
    check_direction(up)
    check_polygon(lot)
    check_word(TURNS, word)
    for corner in lot:
        for low, high, row in _turning(section, up, corner):
            height = sample_inside(row, low, high, sign_for(word))
            if height is not None:
                return (height, corner)
    return None
