"""Which ballast keeps a note, as limits (LINE, IS_STRICT); nothing is checked here.

A point keeps a limit with the line (a, b, h) if a * x + b * y is up to h, and not h itself if the limit is strict.
"""

from hullrests.balance import kind_between, level_line, metacentre_of, rest_line
from hullrests.curves import lever_row, piece_rows
from hullrests.plane import excess, opposite_line, place_sum, place_times
from hullrests.polygons import cut_below
from hullrests.rims import wet_area
from hullrests.roots import sign_beside
from hullrests.tracks import all_pieces, piece_index

NOWHERE = (0, 0, -1)


def _sign_on(section, area, ballast, piece, share, way):
    """The sign of the lever on a piece just beside a share of the left end."""
    return sign_beside(lever_row(piece_rows(section, area, piece), area, ballast), share, way)


def kind_at(section, ballast, stand):
    """The kind of a stand that is a rest with this ballast."""
    area, left = wet_area(section, stand), stand[0]
    pieces = all_pieces(section, area)
    k = piece_index(pieces, left)
    behind = _sign_on(section, area, ballast, pieces[k], left[1], 1)
    if pieces[k][1] == left[1]:
        before = _sign_on(section, area, ballast, pieces[k - 1], pieces[k - 1][2], -1)
    else:
        before = _sign_on(section, area, ballast, pieces[k], left[1], -1)
    return kind_between(before, behind)


def note_limits(section, note):
    """The limits of the ballast that keeps a note."""
    saying, stand = note
    line = rest_line(section, stand)
    if saying == "left":
        return [(line, True)]
    if saying == "right":
        return [(opposite_line(line), True)]
    both = [(line, False), (opposite_line(line), False)]
    if saying == "rest":
        return both
    # The ballast at the metacentre has the firmness 0: its kind is told by the signs beside the stand.
    level = level_line(section, stand)
    is_kind = kind_at(section, metacentre_of(section, stand), stand) == saying
    if saying == "firm":
        return both + [(level, not is_kind)]
    if saying == "tipping":
        return both + [(opposite_line(level), not is_kind)]
    return both + [(level, False), (opposite_line(level), False)] if is_kind else [(NOWHERE, False)]


def keeps_limits(limits, point):
    """Whether a point keeps all limits."""
    for line, is_strict in limits:
        over = excess(line, point)
        if over > 0 or (over == 0 and is_strict):
            return False
    return True


def mean_of(points):
    """The sum of the points divided by how many they are."""
    total = (0, 0, 1)
    for point in points:
        total = place_sum(total, point)
    return place_times(total, (1, len(points)))


def closed_cut(part, limits):
    """What of a polygon is on the right side of all lines, or on them; None for nothing."""
    for line, is_strict in limits:
        part = cut_below(part, line)
        if part is None:
            return None
    return part


def has_some(part, limits):
    """Whether some point of a closed cut with these limits keeps them."""
    # All that does makes up the cut but for strict ends; so if there is any, the mean of the corners does.
    return part is not None and keeps_limits(limits, mean_of(part))


def part_within(lot, limits):
    """The least polygon that has all points of the lot that keep the limits; None if none does."""
    part = closed_cut(lot, limits)
    return part if has_some(part, limits) else None


def all_keep(part, limits, wanted):
    """Whether all that keeps the limits, the least polygon with it being the part, keeps those wanted, too."""
    for line, is_strict in wanted:
        if any([excess(line, corner) > 0 for corner in part]):
            return False
        ends = [corner for corner in part if excess(line, corner) == 0]
        if is_strict and ends and keeps_limits(limits, mean_of(ends)):
            return False
    return True
