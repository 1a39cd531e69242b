"""Heels of a log, told by an up: where the water line lies, the word there, and where the log comes to."""

from hullrests.balance import word_of
from hullrests.checks import check_area, check_direction, check_log, check_many, check_section
from hullrests.curves import heel_row
from hullrests.lines import area_under, height_along
from hullrests.ratios import order
from hullrests.rests import kinds_round, rest_ahead
from hullrests.righting import righting_parts
from hullrests.rims import rim_on, stand_ahead
from hullrests.roots import chain_of, count_below
from hullrests.surds import count_before_surd, fraction_of, sign_at_surd, surd_floor
from hullrests.tracks import all_pieces


def _check_heel(section, area, up):
    """The checks of a section, an area and an up."""
    check_section(section)
    check_area(section, area)
    check_direction(up)


def _signs(section, area, up):
    """-1, 0 or 1 for each corner, as it is under the water line, on it, or above it."""
    return [order(area_under(section, up, height_along(up, corner)), area) for corner in section]


def corner_signs(section, area, up):
    """-1, 0 or 1 for each corner, as it is under the water line, on it, or above it."""
    _check_heel(section, area, up)
    return tuple(_signs(section, area, up))


def _edges_of_ends(signs):
    """The edges on which the left end and the right one lie, with shares below (1, 1), by the signs of the corners."""
    left = right = None
    for k, sign in enumerate(signs):
        after = signs[(k + 1) % len(signs)]
        if after < 0 <= sign:
            left = k
        if sign <= 0 < after:
            right = k
    return (left, right)


def _piece_at(section, area, up):
    """The index of the piece with the left end at a heel, and the piece."""
    pieces = all_pieces(section, area)
    edges = [(edge, opposite) for edge, low, high, opposite in pieces]
    k = edges.index(_edges_of_ends(_signs(section, area, up)))
    return (k, pieces[k])


def _left_end(section, area, up):
    """The index of the piece, the left end's edge, and its share as the only root of a row."""
    k, piece = _piece_at(section, area, up)
    edge, low, high, opposite = piece
    return (k, edge, (heel_row(section, area, piece, up), low, high))


def heel_piece(section, area, up):
    """The index of the piece that has the left end at this heel, that with LOW there where two meet."""
    _check_heel(section, area, up)
    return _piece_at(section, area, up)[0]


def stand_at(section, area, up):
    """The stand at this heel if the shares of its ends are fractions, else None."""
    _check_heel(section, area, up)
    _, edge, surd = _left_end(section, area, up)
    share = fraction_of(surd)
    return None if share is None else stand_ahead(section, area, rim_on(section, edge, share))


def share_near(section, area, up, many):
    """Where the left end lies at this heel: (EDGE, n, IS_JUST)."""
    _check_heel(section, area, up)
    check_many(many)
    _, edge, surd = _left_end(section, area, up)
    n, is_just = surd_floor(surd, many)
    return (edge, n, is_just)


def heel_word(log, up):
    """The word of the lever at this heel."""
    check_log(log)
    check_direction(up)
    section, area, ballast = log
    k, _, surd = _left_end(section, area, up)
    return word_of(sign_at_surd(righting_parts(log)[k][3], surd))


def _place_round(log, up):
    """How many rests there are, how many come before the left end at a heel, and the sign of the lever there."""
    check_log(log)
    check_direction(up)
    section, area, ballast = log
    k, _, surd = _left_end(section, area, up)
    parts = righting_parts(log)
    passed = sum([count_below(chain_of(row), low, high) for edge, low, high, row in parts[:k]])
    row = parts[k][3]
    return (len(kinds_round(parts)), passed + count_before_surd(row, surd), sign_at_surd(row, surd))


def heel_between(log, up):
    """The numbers of the last rest before the heel and the next one behind it; of the rest that it is, twice."""
    many, before, sign = _place_round(log, up)
    if sign == 0:
        return (before, before)
    return ((before - 1) % many, before % many)


def heel_comes_to(log, up):
    """The number of the rest to which the log let go at this heel comes."""
    many, before, sign = _place_round(log, up)
    return rest_ahead(many, before, sign)
