"""Which way the water turns a log, all round."""

from hullrests.balance import word_of
from hullrests.checks import check_index, check_log
from hullrests.curves import lever_row, piece_rows
from hullrests.roots import tale_below, told_once
from hullrests.tracks import all_pieces


def _row_on(log, piece):
    """The righting row of a log on a piece."""
    section, area, ballast = log
    return lever_row(piece_rows(section, area, piece), area, ballast)


def righting_parts(log):
    """The tuples (EDGE, LOW, HIGH, ROW) of all pieces of a log, unchecked, with their righting rows."""
    section, area, ballast = log
    return [(piece[0], piece[1], piece[2], _row_on(log, piece)) for piece in all_pieces(section, area)]


def signs_round(parts):
    """The signs of the lever along all parts, once round, neighbours that are alike told once."""
    found = []
    for edge, low, high, row in parts:
        found.extend(tale_below(row, low, high))
    return told_once(found)


def righting_row(log, index):
    """The righting row on the piece with the index."""
    check_log(log)
    section, area, ballast = log
    found = all_pieces(section, area)
    check_index(len(found), index)
    return _row_on(log, found[index])


def righting_tale(log):
    """The words at all left ends, once round from corner 0 on, neighbours that are alike told once."""
    check_log(log)
    return tuple([word_of(sign) for sign in signs_round(righting_parts(log))])
