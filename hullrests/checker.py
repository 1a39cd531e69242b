"""A small checker of claims and their papers, whoever wrote them.

Each function beside `accepts` is told what a claim tells behind its first word, and the paper.
"""

from hullrests.draughts import is_always_level
from hullrests.drypoints import wet_words, wetness
from hullrests.kinds import arc_fits, area_fits, direction_fits, is_whole, log_fits, notes_fit, parts_fit, point_fits
from hullrests.kinds import polygon_fits, section_fits, stand_fits, word_fits
from hullrests.levers import word_at
from hullrests.lots import is_trap, words_on
from hullrests.notes import fitting_part, keeps
from hullrests.polygons import has_point
from hullrests.rests import has_one_pose, rests
from hullrests.rims import stand_up, wet_area
from hullrests.tracks import has_rim

TURNS = ("left", "right")
SIGHTS = ("dry", "wet")
KINDS = ("firm", "tipping", "sliding")


def _is_stand_on(section, area, arc, value):
    """Whether a value is a stand of the arc with this area."""
    return stand_fits(section, value) and wet_area(section, value) == area and has_rim(arc, value[0])


def _turning_fits(told):
    """Whether these are a log, an arc of its section, and `left` or `right`."""
    if not parts_fit(told, 3) or not log_fits(told[0]):
        return False
    return arc_fits(told[0][0], told[1]) and word_fits(TURNS, told[2])


def _unturned(told, paper):
    """At no stand of the arc the log has the word."""
    if not _turning_fits(told) or not parts_fit(paper, 0):
        return False
    (section, area, ballast), arc, word = told
    return word not in words_on(section, area, (ballast,), arc)


def _turned(told, paper):
    """At some stand of the arc the log has the word: at the paper."""
    if not _turning_fits(told):
        return False
    (section, area, ballast), arc, word = told
    return _is_stand_on(section, area, arc, paper) and word_at(section, ballast, paper) == word


def _pose_fits(told, paper):
    """Whether this is a log alone, with no paper."""
    return parts_fit(told, 1) and log_fits(told[0]) and parts_fit(paper, 0)


def _one_pose(told, paper):
    """Just one of the log's rests is firm and none is sliding."""
    return _pose_fits(told, paper) and has_one_pose(told[0])


def _several_poses(told, paper):
    """It is not so."""
    return _pose_fits(told, paper) and not has_one_pose(told[0])


def _rests(told, paper):
    """The log's rests have these kinds."""
    if not parts_fit(told, 2) or not log_fits(told[0]) or not parts_fit(paper, 0):
        return False
    log, kinds = told
    return isinstance(kinds, tuple) and all([word_fits(KINDS, kind) for kind in kinds]) and rests(log) == kinds


def _sight_fits(told):
    """Whether these are a section, an area, a point, an arc, and `dry` or `wet`."""
    if not parts_fit(told, 5) or not section_fits(told[0]):
        return False
    section, area, point, arc, word = told
    return area_fits(section, area) and point_fits(point) and arc_fits(section, arc) and word_fits(SIGHTS, word)


def _unseen(told, paper):
    """At no stand of the arc the point has the word."""
    if not _sight_fits(told) or not parts_fit(paper, 0):
        return False
    section, area, point, arc, word = told
    return word not in wet_words(section, area, point, arc)


def _seen(told, paper):
    """At some stand of the arc the point has the word: at the paper."""
    if not _sight_fits(told):
        return False
    section, area, point, arc, word = told
    return _is_stand_on(section, area, arc, paper) and wetness(section, paper, point) == word


def _trap_fits(told):
    """Whether these are a section, an area, a lot and an arc."""
    if not parts_fit(told, 4) or not section_fits(told[0]):
        return False
    section, area, lot, arc = told
    return area_fits(section, area) and polygon_fits(lot) and arc_fits(section, arc)


def _trap(told, paper):
    """The arc is a trap of the lot."""
    if not _trap_fits(told) or not parts_fit(paper, 0):
        return False
    section, area, lot, arc = told
    return is_trap(section, area, lot, arc)


def _no_trap(told, paper):
    """It is none: at an end of the arc, the paper's stand, the paper's ballast turns the log out of it."""
    if not _trap_fits(told) or not parts_fit(paper, 2):
        return False
    (section, area, lot, arc), (stand, ballast) = told, paper
    if arc is None or not _is_stand_on(section, area, arc, stand):
        return False
    if not point_fits(ballast) or not has_point(lot, ballast):
        return False
    word = word_at(section, ballast, stand)
    return (word == "left" and stand[0] == arc[0]) or (word == "right" and stand[0] == arc[1])


def _level_fits(told):
    """Whether these are a section, an up and a ballast."""
    return parts_fit(told, 3) and section_fits(told[0]) and direction_fits(told[1]) and point_fits(told[2])


def _level(told, paper):
    """The word is `rest` at all heights."""
    if not _level_fits(told) or not parts_fit(paper, 0):
        return False
    section, up, ballast = told
    return is_always_level(section, up, ballast)


def _not_level(told, paper):
    """It is not: the paper is a stand with this up and another word."""
    if not _level_fits(told):
        return False
    section, up, ballast = told
    if not stand_fits(section, paper) or stand_up(section, paper) != up:
        return False
    return word_at(section, ballast, paper) != "rest"


def _notes_fit(told):
    """Whether these are a section, a lot and notes."""
    return parts_fit(told, 3) and section_fits(told[0]) and polygon_fits(told[1]) and notes_fit(told[0], told[2])


def _fits(told, paper):
    """Some ballast of the lot fits the notes: the paper."""
    if not _notes_fit(told) or not point_fits(paper):
        return False
    section, lot, notes = told
    return has_point(lot, paper) and all([keeps(section, paper, note) for note in notes])


def _at_odds(told, paper):
    """None does: the paper are the indexes of one to three notes that no ballast of the lot fits."""
    if not _notes_fit(told) or not isinstance(paper, tuple) or not 1 <= len(paper) <= 3:
        return False
    section, lot, notes = told
    if not all([is_whole(k) and 0 <= k < len(notes) for k in paper]):
        return False
    if not all([one < other for one, other in zip(paper, paper[1:])]):
        return False
    return fitting_part(section, lot, tuple([notes[k] for k in paper])) is None


CLAIMS = {
    "unturned": _unturned, "turned": _turned, "one pose": _one_pose, "several poses": _several_poses, "rests": _rests,
    "unseen": _unseen, "seen": _seen, "trap": _trap, "no trap": _no_trap, "level": _level, "not level": _not_level,
    "fits": _fits, "at odds": _at_odds,
}


def accepts(claim, paper):
    """True if the claim is one for the checker and the paper is one for it; otherwise False, whatever both are."""
    if not isinstance(claim, tuple) or not claim or not isinstance(claim[0], str) or claim[0] not in CLAIMS:
        return False
    is_accepted = CLAIMS[claim[0]]
    return is_accepted(claim[1:], paper)
