"""Stands as water lines."""

import unittest

from hullrests import cuts
from hullrests.errors import InvalidDirection, InvalidFraction, InvalidPoint, InvalidSection, InvalidStand, OffSection
from tests import wrong
from tests.reckoning import Maker, area, cross, hull, number, pair, point, rim_spot, spot, way, wet
from tests.shapes import ALL, LEVEL, SLANT, SQUARE, square
from tests.wrong import check_arguments, raised

SECTION = (InvalidSection, wrong.SECTIONS)
UP = (InvalidDirection, wrong.DIRECTIONS)
HEIGHT = (InvalidFraction, wrong.FRACTIONS)
POINT = (InvalidPoint, wrong.POINTS)


def height(up, place):
    """The height of a place."""
    return up[0] * place[0] + up[1] * place[1]


class CutsTest(unittest.TestCase):
    def each(self, many):
        maker = Maker(6)
        for section in ALL + tuple(maker.polygon(maker.random.randint(3, 8)) for _ in range(many)):
            for up in ((0, 1), (1, 0), (-1, 1), (-3, -2), (5, 7), (0, -1)):
                yield maker, section, up, [height(up, spot(corner)) for corner in section]

    def test_heights(self):
        for maker, section, up, marks in self.each(10):
            self.assertEqual((pair(min(marks)), pair(max(marks))), cuts.heights(section, up))
            self.assertEqual(pair(marks[1]), cuts.height_of(up, section[1]))

    def test_lines(self):
        for maker, section, up, marks in self.each(10):
            shares = [number(maker.share(7)) for _ in range(3)]
            for at in [min(marks) + share * (max(marks) - min(marks)) for share in shares] + marks:
                place = point(at * up[0] / (up[0] ** 2 + up[1] ** 2), at * up[1] / (up[0] ** 2 + up[1] ** 2))
                if not min(marks) < at < max(marks):
                    raised(self, OffSection, {"given": pair(at)}, cuts.line_at, section, up, pair(at))
                    raised(self, OffSection, {"given": place}, cuts.line_through, section, up, place)
                    continue
                stand = cuts.line_at(section, up, pair(at))
                self.assertIs(True, cuts.is_stand(section, stand))
                self.assertEqual(stand, cuts.line_through(section, up, place))
                ends = [rim_spot(section, rim) for rim in stand]
                self.assertEqual([at, at], [height(up, end) for end in ends])
                self.assertEqual(tuple(point(*end) for end in ends), cuts.ends_of(section, stand))
                self.assertEqual(up, cuts.up_of(section, stand))
                self.assertLess(height((up[1], -up[0]), ends[0]), height((up[1], -up[0]), ends[1]))
                self.assertEqual(pair(area(wet(section, stand))), cuts.area_below(section, up, pair(at)))

    def test_area_below_all_heights(self):
        for maker, section, up, marks in self.each(3):
            whole = area([spot(corner) for corner in section])
            for at in (min(marks), min(marks) - 3):
                self.assertEqual((0, 1), cuts.area_below(section, up, pair(at)))
            for at in (max(marks), max(marks) + 3):
                self.assertEqual(pair(whole), cuts.area_below(section, up, pair(at)))

    def test_parts(self):
        maker = Maker(7)
        for section in ALL:
            for _ in range(15):
                stand = (maker.rim(section, 3), maker.rim(section, 3))
                edges = [{k, k - 1 if n == 0 else k} for k, (n, m) in stand]
                edges = [{edge % len(section) for edge in each} for each in edges]
                self.assertEqual(not edges[0] & edges[1], cuts.is_stand(section, stand))
                if edges[0] & edges[1]:
                    continue
                left, right = (rim_spot(section, rim) for rim in stand)
                turns = [cross(left, right, spot(corner)) for corner in section]
                below, above = wet(section, stand), wet(section, stand[::-1])
                self.assertEqual(tuple(point(*p) for p in hull(below)), cuts.wet_part(section, stand))
                self.assertEqual(tuple(point(*p) for p in hull(above)), cuts.dry_part(section, stand))
                self.assertEqual(tuple(k for k, t in enumerate(turns) if t < 0), cuts.wet_corners(section, stand))
                self.assertEqual(pair(area(below)), cuts.area_of_stand(section, stand))
                c = way(section, stand)
                up = cuts.up_of(section, stand)
                self.assertEqual(0, up[0] * c[0] + up[1] * c[1])
                self.assertGreater(c[0] * up[1] - c[1] * up[0], 0)

    def test_stands(self):
        for value in wrong.stands(square):
            self.assertIs(False, cuts.is_stand(square, value))
        for value in (SLANT, LEVEL, LEVEL[::-1], ((0, (0, 1)), (2, (0, 1))), ((0, (0, 1)), (1, (1, 2)))):
            self.assertIs(True, cuts.is_stand(square, value))

    def test_arguments(self):
        check_arguments(self, cuts.height_of, {"up": (0, 1), "point": (1, 1, 3)}, {"up": UP, "point": POINT})
        check_arguments(self, cuts.heights, {"section": square, "up": (0, 1)}, {"section": SECTION, "up": UP})
        right = {"section": square, "up": (0, 1), "height": (1, 3)}
        for function in (cuts.line_at, cuts.area_below):
            check_arguments(self, function, right, {"section": SECTION, "up": UP, "height": HEIGHT})
        check_arguments(self, cuts.line_through, {"section": square, "up": (0, 1), "point": (9, 1, 3)},
                        {"section": SECTION, "up": UP, "point": POINT})
        check_arguments(self, cuts.is_stand, {"section": SQUARE, "value": None}, {"section": SECTION})
        for function in (cuts.ends_of, cuts.up_of, cuts.area_of_stand, cuts.wet_part, cuts.dry_part, cuts.wet_corners):
            check_arguments(self, function, {"section": square, "stand": SLANT},
                            {"section": SECTION, "stand": (InvalidStand, wrong.stands(square))})


if __name__ == "__main__":
    unittest.main()
