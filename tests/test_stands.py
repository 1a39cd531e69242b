"""The stands of one area, their pieces and arcs."""

import unittest
from fractions import Fraction

from hullrests import stands
from hullrests.cuts import area_of_stand, is_stand, up_of
from hullrests.errors import InvalidArc, InvalidArea, InvalidIndex, InvalidRimPoint, InvalidSection
from tests import wrong
from tests.reckoning import Maker, area, number, pair, spot, wet
from tests.shapes import ALL, SQUARE, half, square
from tests.wrong import check_arguments

SECTION = (InvalidSection, wrong.SECTIONS)
AREA = (InvalidArea, wrong.areas(square, (1, 1)))
SKEW = ((0, 0, 1), (9, -1, 2), (10 ** 12, 1, 10 ** 11), (7, 5, 3))
RIM = (InvalidRimPoint, wrong.rims(square))
ARC = (InvalidArc, wrong.arcs(square))


def key(rim):
    """What tells the order of rim points."""
    return (rim[0], number(rim[1]))


def rim_at(section, edge, share):
    """The rim point with a share up to 1."""
    return (edge, pair(share)) if share < 1 else ((edge + 1) % len(section), (0, 1))


class StandsTest(unittest.TestCase):
    def each(self, many=12):
        maker = Maker(8)
        for section in ALL + tuple(maker.polygon(maker.random.randint(3, 8)) for _ in range(many)):
            whole = area([spot(corner) for corner in section])
            for size in (maker.area(section), pair(whole / 2), pair(whole / 10 ** 6), pair(whole - whole / 10 ** 6)):
                yield maker, section, size

    def test_by_one_end(self):
        for maker, section, size in self.each():
            for rim in [maker.rim(section) for _ in range(3)] + [(0, (0, 1)), (len(section) - 1, (0, 1))]:
                stand = stands.stand_from(section, size, rim)
                self.assertEqual(rim, stand[0])
                self.assertIs(True, is_stand(section, stand))
                self.assertEqual(number(size), area(wet(section, stand)))
                self.assertEqual(stand, stands.stand_to(section, size, stand[1]))
                back = stands.stand_to(section, size, rim)
                self.assertEqual(rim, back[1])
                self.assertEqual(number(size), area(wet(section, back)))
                self.assertEqual(back, stands.stand_from(section, size, back[0]))

    def test_areas_near_the_ends(self):
        for section in ALL:
            whole = area([spot(corner) for corner in section])
            for size in (pair(whole / 10 ** 40), pair(whole - whole / 10 ** 40)):
                shares = ((0, 1), (1, 3), (10 ** 30 - 1, 10 ** 30))
                for rim in [(k, share) for k in range(len(section)) for share in shares]:
                    stand = stands.stand_from(section, size, rim)
                    self.assertIs(True, is_stand(section, stand))
                    self.assertEqual(size, area_of_stand(section, stand))
                    self.assertEqual(stand, stands.stand_to(section, size, stand[1]))
                told = stands.pieces(section, size)
                self.assertEqual(2 * len(section), len(told))
                self.assertEqual(2 * len(section), len(stands.corner_stands(section, size)))
        self.assertEqual(((3, (10 ** 40 - 1, 10 ** 40)), (1, (1, 10 ** 40))),
                         stands.stand_from(square, (1, 10 ** 40), (3, (10 ** 40 - 1, 10 ** 40))))

    def test_once_round(self):
        for section in ALL + (SKEW,):
            whole = area([spot(corner) for corner in section])
            for size in (pair(whole / 2), pair(whole / 30), pair(2 * whole / 3)):
                found = [stands.stand_from(section, size, (edge, pair(Fraction(part, 5))))
                         for edge in range(len(section)) for part in range(5)]
                rights = [key(right) for left, right in found]
                self.assertEqual(1, sum(there < here for here, there in zip(rights, rights[1:] + rights[:1])))
                ups = [up_of(section, stand) for stand in found]
                half_turns = sum((a, b) < (0, 0) for a, b in ups)
                self.assertTrue(0 < half_turns < len(ups))
                for (a, b), (c, d) in zip(ups, ups[1:] + ups[:1]):
                    # Each up lies a little counterclockwise of the one before it.
                    self.assertGreater(a * d - b * c, 0)
                starts = sum((a, b) < (0, 0) <= (c, d) for (a, b), (c, d) in zip(ups, ups[1:] + ups[:1]))
                self.assertEqual(1, starts)

    def test_parallel_edges(self):
        # Between the left and the right edge the shares of both ends have a fixed sum; elsewhere they do not.
        for size, found in (((1, 2), (0, 1, 1, 0)), ((1, 3), (-1, 3, 3, 0)), ((3, 4), (1, 2, 2, 0))):
            told = stands.pieces(square, size)
            index = next(k for k, piece in enumerate(told) if piece[0] == 0 and piece[3] == 2)
            self.assertEqual(found, stands.right_share(square, size, index))
        for k, piece in enumerate(stands.pieces(square, (1, 3))):
            across = (piece[3] - piece[0]) % 4 == 2
            self.assertEqual(across, stands.right_share(square, (1, 3), k)[3] == 0)
        self.assertEqual(((0, (0, 1), (1, 3), 1), (0, (1, 3), (1, 1), 2)), stands.pieces(square, (1, 3))[:2])

    def test_both_ends_at_corners(self):
        both = tuple(((k, (0, 1)), ((k + 2) % 4, (0, 1))) for k in range(4))
        self.assertEqual(both, stands.corner_stands(square, (1, 2)))
        self.assertEqual(tuple((k, (0, 1), (1, 1), (k + 2) % 4) for k in range(4)), stands.pieces(square, (1, 2)))
        for section in ALL:
            for k in range(len(section)):
                for j in range(len(section)):
                    stand = ((k, (0, 1)), (j, (0, 1)))
                    if is_stand(section, stand):
                        told = stands.corner_stands(section, area_of_stand(section, stand))
                        self.assertEqual(1, told.count(stand))
                        self.assertEqual(len(told), len(set(left for left, right in told)))
                        self.assertLess(len(told), 2 * len(section))

    def test_pieces_by_hand(self):
        self.assertEqual(((0, (0, 1), (3, 4), 1), (0, (3, 4), (1, 1), 2), (1, (0, 1), (3, 4), 2),
                          (1, (3, 4), (1, 1), 0), (2, (0, 1), (3, 4), 0), (2, (3, 4), (1, 1), 1)),
                         stands.pieces(half, (1, 8)))
        for left, index in (((0, (0, 1)), 0), ((0, (3, 4)), 1), ((0, (3 * 10 ** 40 - 1, 4 * 10 ** 40)), 0),
                            ((0, (10 ** 40 - 1, 10 ** 40)), 1), ((1, (0, 1)), 2), ((2, (3, 4)), 5), ((2, (7, 8)), 5)):
            self.assertEqual(index, stands.piece_of(half, (1, 8), left))
        self.assertEqual((1, 0, 4, -4), stands.right_share(half, (1, 8), 0))
        self.assertEqual((-3, 4, 0, 4), stands.right_share(half, (1, 8), 1))

    def test_stretches_by_hand(self):
        whole = tuple((k, piece[1], piece[2]) for k, piece in enumerate(stands.pieces(half, (1, 8))))
        for arc, told in (
                (None, whole), (((0, (3, 4)), (0, (3, 4))), ((1, (3, 4), (3, 4)),)),
                (((1, (0, 1)), (1, (0, 1))), ((2, (0, 1), (0, 1)),)),
                (((0, (0, 1)), (0, (3, 4))), ((0, (0, 1), (3, 4)),)),
                (((0, (3, 4)), (1, (0, 1))), ((1, (3, 4), (1, 1)),)),
                (((0, (1, 2)), (0, (7, 8))), ((0, (1, 2), (3, 4)), (1, (3, 4), (7, 8)))),
                (((2, (7, 8)), (0, (0, 1))), ((5, (7, 8), (1, 1)),)),
                (((2, (7, 8)), (0, (1, 2))), ((5, (7, 8), (1, 1)), (0, (0, 1), (1, 2)))),
                (((0, (0, 1)), (2, (7, 8))), whole[:5] + ((5, (3, 4), (7, 8)),)),
                (((0, (1, 2)), (0, (0, 1))), ((0, (1, 2), (3, 4)),) + whole[1:]),
                (((0, (1, 2)), (0, (1, 4))), ((0, (1, 2), (3, 4)),) + whole[1:] + ((0, (0, 1), (1, 4)),)),
                (((2, (4, 5)), (2, (3, 4))), ((5, (4, 5), (1, 1)),) + whole[:5])):
            self.assertEqual(told, stands.stretches(half, (1, 8), arc))

    def test_rim_points_of_arcs(self):
        arcs = {((1, (1, 2)), (1, (1, 2))): ((1, (1, 2)),),
                ((2, (1, 2)), (0, (0, 1))): ((2, (1, 2)), (2, (9, 10)), (0, (0, 1))),
                ((0, (0, 1)), (0, (1, 2))): ((0, (0, 1)), (0, (1, 2)), (0, (1, 3)))}
        rims = {(k, share) for k in range(3) for share in ((0, 1), (1, 3), (1, 2), (9, 10))}
        for arc, told in arcs.items():
            for rim in rims:
                self.assertIs(rim in told, stands.is_on_arc(half, arc, rim))
                self.assertIs(True, stands.is_on_arc(half, None, rim))
                if arc[0] != arc[1]:
                    # What is not on an arc is on the one from its end back to its beginning.
                    self.assertIs(rim not in told or rim in arc, stands.is_on_arc(half, arc[::-1], rim))

    def test_corner_stands(self):
        for maker, section, size in self.each():
            told = stands.corner_stands(section, size)
            self.assertEqual(sorted(told, key=lambda stand: key(stand[0])), list(told))
            expected = set()
            for k in range(len(section)):
                expected |= {stands.stand_from(section, size, (k, (0, 1))), stands.stand_to(section, size, (k, (0, 1)))}
            self.assertEqual(expected, set(told))
            self.assertEqual(len(expected), len(told))

    def test_pieces(self):
        for maker, section, size in self.each():
            told = stands.pieces(section, size)
            self.assertEqual((0, (0, 1)), told[0][:2])
            lefts = [stand[0] for stand in stands.corner_stands(section, size)]
            self.assertEqual(lefts, [piece[:2] for piece in told])
            for k, (edge, low, high, opposite) in enumerate(told):
                after = told[(k + 1) % len(told)]
                self.assertEqual(after[:2], rim_at(section, edge, number(high)))
                self.assertNotEqual((edge, opposite), (after[0], after[3]))
                a, b, c, d = stands.right_share(section, size, k)
                for part in (0, Fraction(1, 7), Fraction(2, 3), 1):
                    share = number(low) + part * (number(high) - number(low))
                    left = rim_at(section, edge, share)
                    self.assertGreater(c + d * share, 0)
                    right = rim_at(section, opposite, (a + b * share) / (c + d * share))
                    self.assertEqual((left, right), stands.stand_from(section, size, left))
                    self.assertEqual(k if part < 1 else (k + 1) % len(told), stands.piece_of(section, size, left))

    def test_right_shares_are_reduced(self):
        self.assertEqual((1, 0, 2, -2), stands.right_share(SQUARE, (1, 1), 0))
        self.assertEqual((0, 1, 1, 0), stands.right_share(square, (1, 2), 0))
        self.assertEqual((1, 0, 4, -4), stands.right_share(half, (1, 8), 0))
        for maker, section, size in self.each(4):
            for k in range(len(stands.pieces(section, size))):
                told = stands.right_share(section, size, k)
                self.assertFalse(any(all(n % d == 0 for n in told) for d in (2, 3, 5, 7, 11)))

    def test_arcs(self):
        for maker, section, size in self.each():
            told = stands.pieces(section, size)
            whole = tuple((k, piece[1], piece[2]) for k, piece in enumerate(told))
            self.assertEqual(whole, stands.stretches(section, size, None))
            mark = maker.random.choice(told)[:2]
            rims = [maker.rim(section, 3), maker.rim(section), mark, (0, (0, 1))]
            for first in rims:
                k = stands.piece_of(section, size, first)
                self.assertEqual(((k, first[1], first[1]),), stands.stretches(section, size, (first, first)))
                for last in rims:
                    if first != last:
                        self.holds_stretches(section, told, size, (first, last))

    def holds_stretches(self, section, told, size, arc):
        """Holds that the stretches lead from the first rim point to the last one, piece by piece."""
        found = stands.stretches(section, size, arc)
        self.assertEqual(arc[0], rim_at(section, told[found[0][0]][0], number(found[0][1])))
        self.assertEqual(arc[1], rim_at(section, told[found[-1][0]][0], number(found[-1][2])))
        for k, low, high in found:
            self.assertLessEqual(number(told[k][1]), number(low))
            self.assertLess(number(low), number(high))
            self.assertLessEqual(number(high), number(told[k][2]))
        for here, there in zip(found, found[1:]):
            self.assertEqual((here[0] + 1) % len(told), there[0])
            self.assertEqual((here[2], there[1]), (told[here[0]][2], told[there[0]][1]))
        for rim in [(k, (n, 4)) for k in range(len(section)) for n in (1, 3)] + list(arc):
            first, last = key(arc[0]), key(arc[1])
            ahead, behind = first <= key(rim), key(rim) <= last
            self.assertEqual(ahead and behind if first <= last else ahead or behind,
                             stands.is_on_arc(section, arc, rim))

    def test_arcs_that_end_where_they_begin(self):
        arc = ((3, (3, 4)), (3, (1, 4)))
        told = stands.stretches(SQUARE, (1, 1), arc)
        self.assertEqual([(7, (3, 4), (1, 1)), (0, (0, 1), (1, 2))], list(told[:2]))
        self.assertEqual([(5, (1, 2), (1, 1)), (6, (0, 1), (1, 4))], list(told[-2:]))
        near = stands.stretches(SQUARE, (1, 1), ((0, (1, 4)), (0, (1, 8))))
        self.assertEqual(((0, (1, 4), (1, 2)), (0, (0, 1), (1, 8))), (near[0], near[-1]))
        self.assertEqual(9, len(near))
        self.assertIs(True, stands.is_on_arc(square, None, (0, (0, 1))))
        self.assertIs(True, stands.is_on_arc(square, ((1, (1, 2)),) * 2, (1, (1, 2))))
        self.assertIs(False, stands.is_on_arc(square, ((1, (1, 2)),) * 2, (1, (1, 3))))

    def test_arguments(self):
        both, told = {"section": SECTION, "area": AREA}, {"section": square, "area": (1, 2)}
        check_arguments(self, stands.pieces, told, both)
        check_arguments(self, stands.corner_stands, told, both)
        for function in (stands.stand_from, stands.piece_of):
            check_arguments(self, function, {**told, "left": (1, (1, 2))}, {**both, "left": RIM})
        check_arguments(self, stands.stand_to, {**told, "right": (1, (1, 2))}, {**both, "right": RIM})
        check_arguments(self, stands.right_share, {**told, "index": 3},
                        {**both, "index": (InvalidIndex, wrong.indexes(4))})
        for arc in (None, ((1, (1, 2)), (1, (1, 2))), ((3, (1, 2)), (0, (1, 2)))):
            check_arguments(self, stands.stretches, {**told, "arc": arc}, {**both, "arc": ARC})
            check_arguments(self, stands.is_on_arc, {"section": square, "arc": arc, "left": (0, (1, 3))},
                            {"section": SECTION, "arc": ARC, "left": RIM})


if __name__ == "__main__":
    unittest.main()
