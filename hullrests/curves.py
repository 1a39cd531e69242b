"""What moves as the left end goes along a piece, as rows in its share; nothing is checked here."""

from hullrests.polygons import half_planes, on_scale, six_moments
from hullrests.polys import row_by, row_less, row_plus, row_quotient, row_shortest, row_times, trimmed
from hullrests.tracks import arc_pieces, share_rule, spots_passed

AXES = (0, 1)


def _row_cross(one, other):
    """The cross product of two pairs of rows."""
    return row_less(row_times(one[0], other[1]), row_times(one[1], other[0]))


def _row_inner(one, other):
    """The inner product of two pairs of rows."""
    return row_plus(row_times(one[0], other[0]), row_times(one[1], other[1]))


def _left_end(spots, edge):
    """The pair of rows of the left end."""
    after = spots[(edge + 1) % len(spots)]
    return [trimmed((spots[edge][d], after[d] - spots[edge][d])) for d in AXES]


def _right_end(spots, opposite, top, bottom):
    """The pair of rows of bottom times the right end, whose share is top / bottom."""
    far, after = spots[opposite], spots[(opposite + 1) % len(spots)]
    return [row_plus(row_by(bottom, far[d]), row_by(top, after[d] - far[d])) for d in AXES]


def _moments(passed, left, right, way, bottom):
    """The pair of rows of bottom times bottom times six times the area times the middle under water."""
    near, far = passed[0], passed[-1]
    fixed, square = six_moments(passed), row_times(bottom, bottom)
    to_near = [row_less((near[d],), left[d]) for d in AXES]
    to_far = [row_less((far[d],), left[d]) for d in AXES]
    inland, shore = _row_cross(to_near, to_far), _row_cross(to_far, way)
    found = []
    for d in AXES:
        # Three parts: between the corners passed, from them to the left end, from the last one to the water line.
        inner_part = row_times(row_plus(left[d], (near[d] + far[d],)), inland)
        corners = row_times(row_plus(left[d], (far[d],)), bottom)
        outer_part = row_times(row_plus(right[d], corners), shore)
        found.append(row_plus(row_times(square, row_plus((fixed[d],), inner_part)), outer_part))
    return found


def _end_rows(section, area, piece):
    """The rows (BOTTOM, LEFT, RIGHT, WAY) of a piece, on the scale of the section's corners.

    BOTTOM is m + n * x of the share of the right end; RIGHT is BOTTOM times the right end, WAY is BOTTOM times
    the way from the left end to the right one.
    """
    spots, scale = on_scale(section)
    k, l, m, n = share_rule(section, area, piece)
    top, bottom = trimmed((k, l)), trimmed((m, n))
    left = _left_end(spots, piece[0])
    right = _right_end(spots, piece[3], top, bottom)
    return (bottom, left, right, [row_less(right[d], row_times(bottom, left[d])) for d in AXES])


def piece_rows(section, area, piece):
    """The rows (BOTTOM, WAY, MOMENTS, SCALE) of a piece, on the scale of the section's corners.

    MOMENTS is BOTTOM times BOTTOM times six times the area times the middle of the water.
    """
    spots, scale = on_scale(section)
    bottom, left, right, way = _end_rows(section, area, piece)
    passed = spots_passed(spots, piece[0], piece[3])
    return (bottom, way, _moments(passed, left, right, way, bottom), scale)


def wetness_row(section, area, piece, point):
    """The shortest row that is above 0 where the point is dry, below 0 where it is wet, all along the piece."""
    spots, scale = on_scale(section)
    bottom, left, right, way = _end_rows(section, area, piece)
    gaps = [row_less((point[d] * scale,), row_by(left[d], point[2])) for d in AXES]
    return row_shortest(_row_cross(way, gaps))


def heel_row(section, area, piece, up):
    """The row, of degree 2 at most, whose only root along the piece is the left end's share at this up's heel.

    As the water line's way turns counterclockwise, it comes nearer to the up: the row goes from below 0 to above 0.
    """
    bottom, left, right, way = _end_rows(section, area, piece)
    return row_shortest(row_plus(row_by(way[0], up[0]), row_by(way[1], up[1])))


def arc_rows(section, area, arc):
    """The tuples (EDGE, LOW, HIGH, ROWS) of an arc's stretches, with the rows of their pieces."""
    told = arc_pieces(section, area, arc)
    return [(piece[0], low, high, piece_rows(section, area, piece)) for piece, low, high in told]


def arc_wetness(section, area, arc, point):
    """The tuples (EDGE, LOW, HIGH, ROW) of an arc's stretches, with the wetness rows of a point."""
    told = arc_pieces(section, area, arc)
    return [(piece[0], low, high, wetness_row(section, area, piece, point)) for piece, low, high in told]


def lever_row(rows, area, ballast):
    """The shortest row with the sign of the lever all along the piece of these rows."""
    bottom, way, moments, scale = rows
    wanted, parts = area
    weight = row_by(row_times(bottom, bottom), 6 * wanted * scale ** 3)
    gaps = [row_less(row_by(moments[d], parts * ballast[2]), row_by(weight, ballast[d])) for d in AXES]
    # This product is BOTTOM times BOTTOM times BOTTOM times the lever.
    return row_quotient(_row_inner(way, gaps), bottom)


def meeting_rows(rows, area, polygon):
    """Rows of which none is below 0 just where the metacentre is in the polygon, all along the piece of these rows."""
    bottom, way, moments, scale = rows
    wanted, parts = area
    cube = row_times(bottom, row_times(bottom, bottom))
    weight = row_by(cube, 12 * wanted * scale ** 3)
    square = _row_inner(way, way)
    turned = (row_by(way[1], -1), way[0])
    # BOTTOM times BOTTOM times BOTTOM times 12 times the area times the metacentre.
    metacentre = [row_plus(row_times(row_by(moments[d], 2), bottom), row_times(square, turned[d])) for d in AXES]
    found = []
    for a, b, h in half_planes(polygon):
        over = row_plus(row_by(metacentre[0], parts * a), row_by(metacentre[1], parts * b))
        found.append(row_less(row_by(weight, h), over))
    return found
