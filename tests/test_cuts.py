"""Stands as water lines."""

import unittest
from fractions import Fraction

from hullrests import cuts
from hullrests.errors import InvalidDirection, InvalidFraction, InvalidPoint, InvalidSection, InvalidStand, OffSection
from tests import wrong
from tests.reckoning import Maker, area, cross, height, hull, number, pair, point, rim_spot, spot, way, wet
from tests.shapes import ALL, LEVEL, SLANT, SQUARE, octagon, square
from tests.wrong import check_arguments, raised

SECTION = (InvalidSection, wrong.SECTIONS)
UP = (InvalidDirection, wrong.DIRECTIONS)
HEIGHT = (InvalidFraction, wrong.FRACTIONS)
POINT = (InvalidPoint, wrong.POINTS)


class CutsTest(unittest.TestCase):
    def each(self, many):
        maker = Maker(6)
        for section in ALL + tuple(maker.polygon(maker.random.randint(3, 8)) for _ in range(many)):
            for up in ((0, 1), (1, 0), (-1, 1), (-3, -2), (5, 7), (0, -1)):
                yield maker, section, up, [height(up, spot(corner)) for corner in section]

    def test_heights(self):
        for maker, section, up, marks in self.each(10):
            self.assertEqual((pair(min(marks)), pair(max(marks))), cuts.heights(section, up))
            self.assertEqual(pair(marks[1]), cuts.height_of(up, section[1]))

    def test_lines(self):
        for maker, section, up, marks in self.each(10):
            shares = [number(maker.share(7)) for _ in range(3)]
            for at in [min(marks) + share * (max(marks) - min(marks)) for share in shares] + marks:
                place = point(at * up[0] / (up[0] ** 2 + up[1] ** 2), at * up[1] / (up[0] ** 2 + up[1] ** 2))
                if not min(marks) < at < max(marks):
                    raised(self, OffSection, {"given": pair(at)}, cuts.line_at, section, up, pair(at))
                    raised(self, OffSection, {"given": place}, cuts.line_through, section, up, place)
                    continue
                stand = cuts.line_at(section, up, pair(at))
                self.assertIs(True, cuts.is_stand(section, stand))
                self.assertEqual(stand, cuts.line_through(section, up, place))
                ends = [rim_spot(section, rim) for rim in stand]
                self.assertEqual([at, at], [height(up, end) for end in ends])
                self.assertEqual(tuple(point(*end) for end in ends), cuts.ends_of(section, stand))
                self.assertEqual(up, cuts.up_of(section, stand))
                self.assertLess(height((up[1], -up[0]), ends[0]), height((up[1], -up[0]), ends[1]))
                self.assertEqual(pair(area(wet(section, stand))), cuts.area_below(section, up, pair(at)))

    def test_area_below_all_heights(self):
        for maker, section, up, marks in self.each(3):
            whole = area([spot(corner) for corner in section])
            for at in (min(marks), min(marks) - 3):
                self.assertEqual((0, 1), cuts.area_below(section, up, pair(at)))
            for at in (max(marks), max(marks) + 3):
                self.assertEqual(pair(whole), cuts.area_below(section, up, pair(at)))

    def test_parts(self):
        maker = Maker(7)
        for section in ALL:
            for _ in range(15):
                stand = (maker.rim(section, 3), maker.rim(section, 3))
                edges = [{k, k - 1 if n == 0 else k} for k, (n, m) in stand]
                edges = [{edge % len(section) for edge in each} for each in edges]
                self.assertEqual(not edges[0] & edges[1], cuts.is_stand(section, stand))
                if edges[0] & edges[1]:
                    continue
                left, right = (rim_spot(section, rim) for rim in stand)
                turns = [cross(left, right, spot(corner)) for corner in section]
                below, above = wet(section, stand), wet(section, stand[::-1])
                self.assertEqual(tuple(point(*p) for p in hull(below)), cuts.wet_part(section, stand))
                self.assertEqual(tuple(point(*p) for p in hull(above)), cuts.dry_part(section, stand))
                self.assertEqual(tuple(k for k, t in enumerate(turns) if t < 0), cuts.wet_corners(section, stand))
                self.assertEqual(pair(area(below)), cuts.area_of_stand(section, stand))
                c = way(section, stand)
                up = cuts.up_of(section, stand)
                self.assertEqual(0, up[0] * c[0] + up[1] * c[1])
                self.assertGreater(c[0] * up[1] - c[1] * up[0], 0)

    def test_lines_at_corners_and_near_the_ends(self):
        tiny = Fraction(1, 10 ** 50)
        for maker, section, up, marks in self.each(6):
            least, most = min(marks), max(marks)
            for at in sorted(set(marks)) + [least + tiny, most - tiny, least - tiny, most + tiny]:
                if not least < at < most:
                    raised(self, OffSection, {"given": pair(at)}, cuts.line_at, section, up, pair(at))
                    continue
                left, right = cuts.line_at(section, up, pair(at))
                # The rim comes below the line just behind the left end, and above it just behind the right one.
                for (edge, share), turn in ((left, -1), (right, 1)):
                    there = marks[(edge + 1) % len(marks)]
                    self.assertEqual(at, marks[edge] + number(share) * (there - marks[edge]))
                    self.assertGreater(turn * (there - at), 0)
                    self.assertGreaterEqual(turn * (at - marks[edge]), 0)
                corners = {k for k, mark in enumerate(marks) if mark == at}
                self.assertEqual(corners, {k for k, share in (left, right) if share == (0, 1)})
                self.assertEqual(tuple(k for k, mark in enumerate(marks) if mark < at),
                                 cuts.wet_corners(section, (left, right)))
                self.assertEqual(pair(area(wet(section, (left, right)))), cuts.area_below(section, up, pair(at)))

    def test_lines_along_an_edge(self):
        for section in ALL:
            for k, corner in enumerate(section):
                (x, y), (u, v) = spot(corner), spot(section[(k + 1) % len(section)])
                c, s, w = point(y - v, u - x)
                up = next((c // n, s // n) for n in range(max(abs(c), abs(s)), 0, -1) if c % n == s % n == 0)
                level = pair(height(up, (x, y)))
                # The section lies above its edge: no water line goes along it, and just above it there is one.
                self.assertEqual(level, cuts.heights(section, up)[0])
                raised(self, OffSection, {"given": level}, cuts.line_at, section, up, level)
                for place in (corner, section[(k + 1) % len(section)], point((x + u) / 2, (y + v) / 2)):
                    raised(self, OffSection, {"given": place}, cuts.line_through, section, up, place)
                self.assertEqual((0, 1), cuts.area_below(section, up, level))
                self.assertEqual(pair(area([spot(each) for each in section])),
                                 cuts.area_below(section, (-up[0], -up[1]), (-level[0], level[1])))
                above = pair(number(level) + Fraction(1, 10 ** 40))
                left, right = cuts.line_at(section, up, above)
                self.assertEqual(((k - 1) % len(section), (k + 1) % len(section)), (left[0], right[0]))
                self.assertEqual(tuple(sorted((k, (k + 1) % len(section)))), cuts.wet_corners(section, (left, right)))

    def test_skew_ups(self):
        great = 10 ** 60
        for up in ((great, great - 1), (-great, 1), (-3, -great), (7, -great - 1)):
            for section in ALL:
                marks = [height(up, spot(corner)) for corner in section]
                self.assertEqual((pair(min(marks)), pair(max(marks))), cuts.heights(section, up))
                at = (min(marks) + 2 * max(marks)) / 3
                stand = cuts.line_at(section, up, pair(at))
                self.assertEqual(up, cuts.up_of(section, stand))
                self.assertEqual([pair(at)] * 2, [cuts.height_of(up, end) for end in cuts.ends_of(section, stand)])
                self.assertEqual(stand, cuts.line_through(section, up, cuts.ends_of(section, stand)[1]))
                self.assertEqual(stand[::-1], cuts.line_at(section, (-up[0], -up[1]), pair(-at)))

    def test_either_way_round(self):
        maker = Maker(15)
        for section in ALL + tuple(maker.polygon(3 + k % 6) for k in range(8)):
            whole = area([spot(corner) for corner in section])
            for _ in range(6):
                rims = (maker.rim(section, 2), maker.rim(section, 3))
                if not cuts.is_stand(section, rims):
                    self.assertIs(False, cuts.is_stand(section, rims[::-1]))
                    continue
                back = rims[::-1]
                self.assertIs(True, cuts.is_stand(section, back))
                self.assertEqual(cuts.ends_of(section, rims), cuts.ends_of(section, back)[::-1])
                self.assertEqual(cuts.wet_part(section, rims), cuts.dry_part(section, back))
                self.assertEqual(cuts.dry_part(section, rims), cuts.wet_part(section, back))
                up, other = cuts.up_of(section, rims), cuts.up_of(section, back)
                self.assertEqual(up, (-other[0], -other[1]))
                self.assertEqual(whole, sum(number(cuts.area_of_stand(section, each)) for each in (rims, back)))
                ends = {k for k, share in rims if share == (0, 1)}
                told = (cuts.wet_corners(section, rims), cuts.wet_corners(section, back))
                self.assertEqual(set(range(len(section))) - ends, set(told[0]) | set(told[1]))
                self.assertEqual(len(section) - len(ends), len(told[0]) + len(told[1]))
                self.assertEqual([len(each) + 2 for each in told],
                                 [len(cuts.wet_part(section, each)) for each in (rims, back)])

    def test_parts_by_hand(self):
        # One corner more than the section, and three.
        many = ((0, (1, 2)), (3, (1, 2)))
        self.assertEqual(((0, 1, 1), (1, 0, 1), (2, 0, 1), (2, 2, 1), (0, 2, 1)), cuts.wet_part(SQUARE, many))
        self.assertEqual(((0, 0, 1), (1, 0, 1), (0, 1, 1)), cuts.dry_part(SQUARE, many))
        self.assertEqual((1, 2, 3), cuts.wet_corners(SQUARE, many))
        self.assertEqual((0,), cuts.wet_corners(SQUARE, many[::-1]))
        # Corners on the water line.
        across = ((0, (0, 1)), (2, (0, 1)))
        self.assertEqual((1,), cuts.wet_corners(SQUARE, across))
        self.assertEqual((3,), cuts.wet_corners(SQUARE, across[::-1]))
        self.assertEqual(((0, 0, 1), (2, 0, 1), (2, 2, 1)), cuts.wet_part(SQUARE, across))
        self.assertEqual(((0, 0, 1), (2, 2, 1), (0, 2, 1)), cuts.dry_part(SQUARE, across))
        self.assertEqual((-1, 1), cuts.up_of(SQUARE, across))
        self.assertEqual((2, 1), cuts.area_of_stand(SQUARE, across))
        # Eight corners: nine under water, three above it.
        off = ((0, (1, 3)), (7, (2, 3)))
        self.assertEqual((9, 3), (len(cuts.wet_part(octagon, off)), len(cuts.dry_part(octagon, off))))
        self.assertEqual((1, 2, 3, 4, 5, 6, 7), cuts.wet_corners(octagon, off))

    def test_what_is_no_stand(self):
        for section in ALL:
            many = len(section)
            for k in range(many):
                after, behind = (k + 1) % many, (k + 2) % many
                for left, right, told in (
                        ((k, (0, 1)), (after, (0, 1)), False), ((k, (1, 3)), (after, (0, 1)), False),
                        ((k, (1, 3)), (k, (2, 3)), False), ((k, (1, 3)), (k, (1, 3)), False),
                        ((k, (0, 1)), (k, (0, 1)), False), ((k, (0, 1)), (k, (10 ** 40 - 1, 10 ** 40)), False),
                        ((k, (1, 3)), (after, (1, 10 ** 40)), True),
                        ((k, (10 ** 40 - 1, 10 ** 40)), (after, (1, 10 ** 40)), True),
                        ((k, (0, 1)), (behind, (0, 1)), many > 3), ((k, (1, 2)), (behind, (0, 1)), True)):
                    self.assertIs(told, cuts.is_stand(section, (left, right)))
                    self.assertIs(told, cuts.is_stand(section, (right, left)))
                    if not told:
                        raised(self, InvalidStand, {"given": (left, right)}, cuts.wet_part, section, (left, right))

    def test_stands(self):
        for value in wrong.stands(square):
            self.assertIs(False, cuts.is_stand(square, value))
        for value in (SLANT, LEVEL, LEVEL[::-1], ((0, (0, 1)), (2, (0, 1))), ((0, (0, 1)), (1, (1, 2)))):
            self.assertIs(True, cuts.is_stand(square, value))

    def test_what_is_told_last(self):
        low, high = (0, 1), (2, 1)
        for at in (low, high, (-1, 10 ** 40), (2 * 10 ** 40 + 1, 10 ** 40), (-9, 1), (9, 1)):
            raised(self, OffSection, {"given": at}, cuts.line_at, SQUARE, (0, 1), at)
            raised(self, OffSection, {"given": at}, cuts.line_at, height=at, up=(0, 1), section=SQUARE)
            place = point(5, number(at))
            raised(self, OffSection, {"given": place}, cuts.line_through, SQUARE, (0, 1), place)
            raised(self, OffSection, {"given": place}, cuts.line_through, point=place, up=(0, 1), section=SQUARE)
            raised(self, InvalidSection, {"given": None}, cuts.line_at, None, (0, 1), at)
            raised(self, InvalidDirection, {"given": (0, 2)}, cuts.line_through, SQUARE, (0, 2), place)
        # A point off the section may have a height of its own.
        self.assertEqual(LEVEL, cuts.line_through(SQUARE, (0, 1), (99, 1, 1)))

    def test_arguments(self):
        check_arguments(self, cuts.height_of, {"up": (0, 1), "point": (1, 1, 3)}, {"up": UP, "point": POINT})
        check_arguments(self, cuts.heights, {"section": square, "up": (0, 1)}, {"section": SECTION, "up": UP})
        right = {"section": square, "up": (0, 1), "height": (1, 3)}
        for function in (cuts.line_at, cuts.area_below):
            check_arguments(self, function, right, {"section": SECTION, "up": UP, "height": HEIGHT})
        check_arguments(self, cuts.line_through, {"section": square, "up": (0, 1), "point": (9, 1, 3)},
                        {"section": SECTION, "up": UP, "point": POINT})
        check_arguments(self, cuts.is_stand, {"section": SQUARE, "value": None}, {"section": SECTION})
        for function in (cuts.ends_of, cuts.up_of, cuts.area_of_stand, cuts.wet_part, cuts.dry_part, cuts.wet_corners):
            check_arguments(self, function, {"section": square, "stand": SLANT},
                            {"section": SECTION, "stand": (InvalidStand, wrong.stands(square))})


if __name__ == "__main__":
    unittest.main()
