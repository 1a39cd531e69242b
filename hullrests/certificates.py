"""Claims with papers that the checker accepts; of two claims that exclude one another, the one that is so."""

from hullrests.checks import check_log
from hullrests.draughts import is_always_level, turned_height
from hullrests.drypoints import stand_with
from hullrests.levers import word_at
from hullrests.lines import stand_at_height
from hullrests.lots import is_trap, turned_at
from hullrests.notes import at_odds, fitting_ballast
from hullrests.rests import has_one_pose, rests
from hullrests.rims import stand_ahead


def certify_turning(log, arc, word):
    """Whether the log has the word, `left` or `right`, at some stand of the arc."""
    check_log(log)
    section, area, ballast = log
    found = turned_at(section, area, (ballast,), arc, word)
    if found is None:
        return (("unturned", log, arc, word), ())
    return (("turned", log, arc, word), found[0])


def certify_pose(log):
    """Whether just one of the log's rests is firm and none is sliding."""
    return (("one pose" if has_one_pose(log) else "several poses", log), ())


def certify_rests(log):
    """The kinds of the log's rests."""
    return (("rests", log, rests(log)), ())


def certify_wetness(section, area, point, arc, word):
    """Whether the point has the word, `dry` or `wet`, at some stand of the arc with this area."""
    found = stand_with(section, area, point, arc, word)
    if found is None:
        return (("unseen", section, area, point, arc, word), ())
    return (("seen", section, area, point, arc, word), found)


def certify_trap(section, area, lot, arc):
    """Whether the arc is a trap of the lot."""
    if is_trap(section, area, lot, arc):
        return (("trap", section, area, lot, arc), ())
    ends = [(stand_ahead(section, area, arc[0]), "left"), (stand_ahead(section, area, arc[1]), "right")]
    papers = [(stand, corner) for stand, word in ends for corner in lot if word_at(section, corner, stand) == word]
    return (("no trap", section, area, lot, arc), papers[0])


def certify_level(section, up, ballast):
    """Whether the word is `rest` at all heights along this up."""
    if is_always_level(section, up, ballast):
        return (("level", section, up, ballast), ())
    found = turned_height(section, up, (ballast,), "left")
    if found is None:
        found = turned_height(section, up, (ballast,), "right")
    return (("not level", section, up, ballast), stand_at_height(section, up, found[0]))


def certify_notes(section, lot, notes):
    """Whether some ballast of the lot fits the notes."""
    found = fitting_ballast(section, lot, notes)
    if found is not None:
        return (("fits", section, lot, notes), found)
    return (("at odds", section, lot, notes), at_odds(section, lot, notes))
