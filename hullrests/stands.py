"""The stands of one area: by their ends, piece by piece, and along arcs."""

from hullrests.checks import check_arc, check_area, check_index, check_rim, check_section
from hullrests.rims import stand_ahead, stand_behind
from hullrests.tracks import all_pieces, arc_stretches, has_rim, piece_index, share_rule, stands_at_corners


def stand_from(section, area, left):
    """The stand with this area and this left end."""
    check_section(section)
    check_area(section, area)
    check_rim(section, left)
    return stand_ahead(section, area, left)


def stand_to(section, area, right):
    """The stand with this area and this right end."""
    check_section(section)
    check_area(section, area)
    check_rim(section, right)
    return stand_behind(section, area, right)


def corner_stands(section, area):
    """All stands of this area with an end at a corner, in the order of their left ends."""
    check_section(section)
    check_area(section, area)
    return stands_at_corners(section, area)


def pieces(section, area):
    """The pieces of the left ends of this area."""
    check_section(section)
    check_area(section, area)
    return all_pieces(section, area)


def piece_of(section, area, left):
    """The index of the piece on which the left end is."""
    check_section(section)
    check_area(section, area)
    check_rim(section, left)
    return piece_index(all_pieces(section, area), left)


def right_share(section, area, index):
    """The numbers (k, l, m, n) of the right end's share on the piece with this index."""
    check_section(section)
    check_area(section, area)
    found = all_pieces(section, area)
    check_index(len(found), index)
    return share_rule(section, area, found[index])


def is_on_arc(section, arc, left):
    """Whether the arc has this rim point."""
    check_section(section)
    check_arc(section, arc)
    check_rim(section, left)
    return has_rim(arc, left)


def stretches(section, area, arc):
    """The triples (INDEX, LOW, HIGH) of the shares of left ends that the arc has, in its order."""
    check_section(section)
    check_area(section, area)
    check_arc(section, arc)
    return tuple(arc_stretches(all_pieces(section, area), arc))
