"""Polygons, sections and rim points."""

import unittest

from hullrests import sections
from hullrests.errors import (InvalidFraction, InvalidPoint, InvalidPoints, InvalidPolygon, InvalidRimPoint,
                              InvalidSection, NoArea)
from tests import wrong
from tests.reckoning import Maker, area, cross, hull, middle, number, pair, point, rim_spot, spot, within
from tests.shapes import ALL, SQUARE, half, square
from tests.wrong import NINE, check_arguments, raised

SECTION = (InvalidSection, wrong.SECTIONS)
POINT = (InvalidPoint, wrong.POINTS)


def spots(polygon):
    """The places of the corners."""
    return [spot(corner) for corner in polygon]


class SectionsTest(unittest.TestCase):
    def test_kinds(self):
        for section in ALL:
            self.assertIs(True, sections.is_section(section))
            self.assertIs(True, sections.is_polygon(section))
        for polygon in (((1, 1, 2),), ((0, 0, 1), (0, 1, 1)), ((-1, 5, 2), (0, 0, 1)), NINE):
            self.assertIs(True, sections.is_polygon(polygon))
            self.assertIs(False, sections.is_section(polygon))
        for value in wrong.POLYGONS:
            self.assertIs(False, sections.is_polygon(value))
        for value in wrong.SECTIONS:
            self.assertIs(False, sections.is_section(value))

    def test_hulls(self):
        maker = Maker(2)
        for _ in range(150):
            given = tuple(maker.point(2, 2) for _ in range(maker.random.randint(1, 8)))
            given = given + given[:8 - len(given)]
            expected = tuple(point(x, y) for x, y in hull([spot(each) for each in given]))
            self.assertEqual(expected, sections.polygon_of(given))
            self.assertEqual(expected, sections.polygon_of(given[::-1]))
            self.assertIs(True, sections.is_polygon(expected))
            if len(expected) > 2:
                self.assertEqual(expected, sections.section_of(given))
            else:
                raised(self, NoArea, {}, sections.section_of, given)
        self.assertEqual(((0, 0, 1),), sections.polygon_of(((0, 0, 1),) * 8))
        self.assertEqual(((0, 0, 1), (4, 4, 1)), sections.polygon_of(((1, 1, 1), (4, 4, 1), (0, 0, 1), (3, 3, 2))))

    def test_areas_and_middles(self):
        maker = Maker(3)
        for section in ALL + tuple(maker.polygon(maker.random.randint(3, 8)) for _ in range(60)):
            self.assertEqual(pair(area(spots(section))), sections.area_of(section))
            self.assertEqual(point(*middle(spots(section))), sections.middle_of(section))
        self.assertEqual((0, 1), sections.area_of(((3, 4, 5),)))
        self.assertEqual((0, 1), sections.area_of(((0, 0, 1), (3, 4, 5))))
        great = 10 ** 400
        self.assertEqual((great * great // 2, 1), sections.area_of(((0, 0, 1), (great, 0, 1), (great, great, 1))))

    def test_what_it_has(self):
        maker = Maker(4)
        for _ in range(150):
            polygon = maker.polygon(maker.random.randint(1, 6), 3, 2)
            for place in [maker.point(3, 2), maker.inner_point(polygon)] + list(polygon):
                self.assertEqual(within(polygon, spot(place)), sections.holds(polygon, place))
                if len(polygon) > 2:
                    sides = zip(polygon, polygon[1:] + polygon[:1])
                    inside = all(cross(spot(a), spot(b), spot(place)) > 0 for a, b in sides)
                    self.assertEqual(inside, sections.is_inside(polygon, place))
        self.assertIs(True, sections.holds(((0, 0, 1), (2, 2, 1)), (1, 1, 1)))
        self.assertIs(False, sections.holds(((0, 0, 1), (2, 2, 1)), (3, 3, 1)))
        self.assertIs(False, sections.holds(((0, 0, 1), (2, 2, 1)), (-1, -1, 1)))

    def test_moved_and_turned(self):
        for section in ALL:
            way, share = (1, -2, 3), (3, 7)
            places = spots(section)
            for told, other in (
                    (sections.moved(section, way), [(x + number((1, 3)), y - number((2, 3))) for x, y in places]),
                    (sections.turned(section), [(-y, x) for x, y in places]),
                    (sections.mirrored(section), [(-x, y) for x, y in places]),
                    (sections.grown(section, share), [(x * number(share), y * number(share)) for x, y in places])):
                self.assertEqual(tuple(point(x, y) for x, y in hull(other)), told)
                self.assertIs(True, sections.is_section(told))

    def test_rim_points(self):
        maker = Maker(5)
        for section in ALL:
            for k, corner in enumerate(section):
                self.assertEqual((k, (0, 1)), sections.rim_of(section, corner))
                self.assertEqual(corner, sections.on_rim(section, (k, (0, 1))))
            for _ in range(12):
                rim = maker.rim(section)
                self.assertIs(True, sections.is_rim_point(section, rim))
                place = sections.on_rim(section, rim)
                self.assertEqual(rim_spot(section, rim), spot(place))
                self.assertEqual(rim, sections.rim_of(section, place))
                other = maker.inner_point(section)
                if sections.is_inside(section, other):
                    self.assertIsNone(sections.rim_of(section, other))
            for value in wrong.rims(section):
                self.assertIs(False, sections.is_rim_point(section, value))
        for off in ((-1, 0, 1), (3, 0, 1), (0, 3, 1), (2, 5, 2), (1, 1, 1)):
            self.assertIsNone(sections.rim_of(SQUARE, off))

    def test_arguments(self):
        for function, right in ((sections.middle_of, square), (sections.turned, half), (sections.mirrored, SQUARE)):
            check_arguments(self, function, {"section": right}, {"section": SECTION})
        polygon = {"polygon": (InvalidPolygon, wrong.POLYGONS)}
        check_arguments(self, sections.area_of, {"polygon": NINE}, polygon)
        check_arguments(self, sections.holds, {"polygon": NINE, "point": (0, 0, 1)}, {**polygon, "point": POINT})
        for function in (sections.is_inside, sections.rim_of):
            check_arguments(self, function, {"section": square, "point": (0, 0, 1)}, {"section": SECTION, "point": POINT})
        check_arguments(self, sections.moved, {"section": square, "way": (0, 0, 1)}, {"section": SECTION, "way": POINT})
        shares = wrong.FRACTIONS + ((0, 1), (-1, 1), (-3, 7))
        check_arguments(self, sections.grown, {"section": square, "fraction": (1, 2)},
                        {"section": SECTION, "fraction": (InvalidFraction, shares)})
        check_arguments(self, sections.on_rim, {"section": square, "rim": (3, (1, 2))},
                        {"section": SECTION, "rim": (InvalidRimPoint, wrong.rims(square))})
        check_arguments(self, sections.is_rim_point, {"section": square, "value": (3, (1, 2))}, {"section": SECTION})

    def test_points_as_arguments(self):
        for function in (sections.polygon_of, sections.section_of):
            check_arguments(self, function, {"points": NINE[:8]}, {})
            for value in wrong.JUNK + (None, [], (), [(0, 0, 1)], 5):
                if isinstance(value, tuple) and value:
                    raised(self, InvalidPoints, {"index": 0}, function, value)
                else:
                    raised(self, InvalidPoints, {"index": None}, function, value)
                    raised(self, InvalidPoints, {"index": None}, function, points=value)
            raised(self, InvalidPoints, {"index": 8}, function, NINE)
            raised(self, InvalidPoints, {"index": 8}, function, NINE[:8] + (None, None))
            for bad in wrong.POINTS:
                raised(self, InvalidPoints, {"index": 3}, function, NINE[:3] + (bad,) + NINE[:6])
                raised(self, InvalidPoints, {"index": 0}, function, (bad, bad) + NINE)
                raised(self, InvalidPoints, {"index": 7}, function, NINE[:7] + (bad,) + NINE[:1])
        raised(self, NoArea, {}, sections.section_of, ((0, 0, 1), (1, 1, 1), (2, 2, 1)))
        raised(self, NoArea, {}, sections.section_of, ((0, 0, 1),))
        raised(self, InvalidPoints, {"index": 1}, sections.section_of, ((0, 0, 1), (1, 1, 0)))


if __name__ == "__main__":
    unittest.main()
