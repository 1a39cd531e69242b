"""Where a log rests, how firmly, and where it comes to from any stand."""

from hullrests.balance import kind_between
from hullrests.checks import check_index, check_log, check_many, check_stand
from hullrests.errors import NotFirm, WrongArea
from hullrests.polys import sign_at
from hullrests.ratios import order
from hullrests.righting import righting_parts, signs_round
from hullrests.rims import wet_area
from hullrests.roots import chain_of, count_below, root_floor


def kinds_round(parts):
    """The kinds of all rests, in their order."""
    signs = signs_round(parts)
    found = []
    for k, sign in enumerate(signs):
        if sign == 0:
            found.append(kind_between(signs[k - 1], signs[(k + 1) % len(signs)]))
    return tuple(found)


def rests(log):
    """The kinds of all rests, in their order."""
    check_log(log)
    return kinds_round(righting_parts(log))


def near(log, index, many):
    """Where the rest with the index lies: (EDGE, n, IS_JUST)."""
    check_log(log)
    parts = righting_parts(log)
    counts = [count_below(chain_of(row), low, high) for edge, low, high, row in parts]
    check_index(sum(counts), index)
    check_many(many)
    passed = 0
    while index >= passed + counts[0]:
        passed = passed + counts[0]
        counts, parts = counts[1:], parts[1:]
    edge, low, high, row = parts[0]
    n, is_just = root_floor(chain_of(row), low, high, index - passed, many)
    return (edge, n, is_just)


def _place_round(parts, left):
    """How many rests come before a left end, and the sign of the lever there."""
    passed = 0
    for edge, low, high, row in parts:
        if edge == left[0] and order(low, left[1]) <= 0 and order(left[1], high) < 0:
            return (passed + count_below(chain_of(row), low, left[1]), sign_at(row, left[1]))
        passed = passed + count_below(chain_of(row), low, high)
    return (passed, 0)


def _check_log_and_stand(log, stand):
    """The checks of a log and a stand with its area."""
    check_log(log)
    section, area, ballast = log
    check_stand(section, stand)
    found = wet_area(section, stand)
    if found != area:
        raise WrongArea(found)


def rest_at(log, stand):
    """The number of the rest that a stand is, None if it is none."""
    _check_log_and_stand(log, stand)
    before, sign = _place_round(righting_parts(log), stand[0])
    return before if sign == 0 else None


def kind_of(log, stand):
    """The kind of the rest that a stand is, None if it is none."""
    _check_log_and_stand(log, stand)
    parts = righting_parts(log)
    before, sign = _place_round(parts, stand[0])
    return kinds_round(parts)[before] if sign == 0 else None


def rest_ahead(many, before, sign):
    """Which of so many rests a log comes to where so many are before it and the lever has this sign."""
    return (before - 1) % many if sign > 0 else before % many


def comes_to(log, stand):
    """The number of the rest to which the log let go at a stand comes, or at which it stays."""
    _check_log_and_stand(log, stand)
    parts = righting_parts(log)
    before, sign = _place_round(parts, stand[0])
    return rest_ahead(len(kinds_round(parts)), before, sign)


def has_one_pose(log):
    """Whether just one rest is firm and none is sliding."""
    check_log(log)
    kinds = kinds_round(righting_parts(log))
    return kinds.count("firm") == 1 and kinds.count("sliding") == 0


def hold(log, index):
    """The numbers of the rests just before and just behind a firm one."""
    check_log(log)
    kinds = kinds_round(righting_parts(log))
    check_index(len(kinds), index)
    if kinds[index] != "firm":
        raise NotFirm(index)
    return ((index - 1) % len(kinds), (index + 1) % len(kinds))
