"""The stands of one area as the left end goes round: pieces and arcs; nothing is checked here."""

from math import lcm

from hullrests.polygons import on_scale, twice_area
from hullrests.ratios import common_divisor, order
from hullrests.rims import rim_order, stand_ahead, stand_behind


def stands_in_order(stands):
    """The stands of one area in the order of their left ends, each once."""
    scale = 1
    for left, right in stands:
        scale = lcm(scale, left[1][1])
    places = [(left[0], left[1][0] * (scale // left[1][1]), k) for k, (left, right) in enumerate(stands)]
    found = []
    for edge, share, k in sorted(places):
        if not found or found[-1] != stands[k]:
            found.append(stands[k])
    return tuple(found)


def stands_at_corners(section, area):
    """All stands with this area and an end at a corner, in their order."""
    found = []
    for k in range(len(section)):
        found.append(stand_ahead(section, area, (k, (0, 1))))
        found.append(stand_behind(section, area, (k, (0, 1))))
    return stands_in_order(found)


def all_pieces(section, area):
    """The pieces (EDGE, LOW, HIGH, OPPOSITE)."""
    stands = stands_at_corners(section, area)
    found = []
    for k, (left, right) in enumerate(stands):
        after = stands[(k + 1) % len(stands)][0]
        high = after[1] if after[0] == left[0] else (1, 1)
        found.append((left[0], left[1], high, right[0]))
    return tuple(found)


def piece_index(pieces, left):
    """The index of the piece on whose edge the left end is, with a share from LOW on, below HIGH."""
    passed = [k for k, piece in enumerate(pieces) if rim_order((piece[0], piece[1]), left) <= 0]
    return passed[-1]


def _cross(one, other):
    """The cross product of two pairs."""
    return one[0] * other[1] - one[1] * other[0]


def _gap(one, other):
    """The first pair less the other."""
    return (one[0] - other[0], one[1] - other[1])


def spots_passed(spots, edge, opposite):
    """The corners from behind one edge up to the beginning of another one."""
    return [spots[(edge + 1 + k) % len(spots)] for k in range((opposite - edge) % len(spots))]


def share_rule(section, area, piece):
    """The numbers (k, l, m, n): with the left end's share x the right end's is (k + l * x) / (m + n * x)."""
    edge, opposite = piece[0], piece[3]
    spots, scale = on_scale(section)
    passed = spots_passed(spots, edge, opposite)
    start, far = spots[edge], spots[opposite]
    way = _gap(passed[0], start)
    other = _gap(spots[(opposite + 1) % len(spots)], far)
    # Twice the area is fixed + turn * x + (m + n * x) * y, y being the share of the right end.
    fixed = twice_area([start] + passed)
    turn = _cross(way, _gap(passed[0], far))
    wanted, parts = area
    rule = (2 * wanted * scale * scale - parts * fixed, -parts * turn,
            parts * _cross(other, _gap(start, far)), parts * _cross(other, way))
    divisor = common_divisor(rule)
    return tuple([n // divisor for n in rule])


def has_rim(arc, left):
    """Whether the arc has the rim point."""
    if arc is None:
        return True
    first, last = arc
    ahead, behind = rim_order(first, left) <= 0, rim_order(left, last) <= 0
    if rim_order(first, last) <= 0:
        return ahead and behind
    return ahead or behind


def _span_stretches(pieces, first, last):
    """The stretches from one rim point on to one behind it; None for the end of the round."""
    found = []
    for k, (edge, low, high, opposite) in enumerate(pieces):
        if edge == first[0] and order(low, first[1]) < 0:
            low = first[1]
        if last is not None and edge == last[0] and order(last[1], high) < 0:
            high = last[1]
        inside = edge >= first[0] and (last is None or edge <= last[0])
        if inside and order(low, high) < 0:
            found.append((k, low, high))
    return found


def arc_stretches(pieces, arc):
    """The triples (INDEX, LOW, HIGH) of the shares of left ends that the arc has, in its order."""
    if arc is None:
        return [(k, low, high) for k, (edge, low, high, opposite) in enumerate(pieces)]
    first, last = arc
    if first == last:
        return [(piece_index(pieces, first), first[1], first[1])]
    if rim_order(first, last) < 0:
        return _span_stretches(pieces, first, last)
    return _span_stretches(pieces, first, None) + _span_stretches(pieces, (0, (0, 1)), last)


def arc_pieces(section, area, arc):
    """The same as triples (PIECE, LOW, HIGH) of the pieces themselves."""
    found = all_pieces(section, area)
    return [(found[k], low, high) for k, low, high in arc_stretches(found, arc)]
