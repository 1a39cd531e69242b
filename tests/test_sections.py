"""Polygons, sections and rim points."""

import itertools
import unittest
from fractions import Fraction

from hullrests import sections
from hullrests.errors import (InvalidFraction, InvalidPoint, InvalidPoints, InvalidPolygon, InvalidRimPoint,
                              InvalidSection, NoArea)
from hullrests.points import between
from tests import wrong
from tests.reckoning import Maker, area, cross, hull, middle, number, pair, point, rim_spot, spot, within
from tests.shapes import ALL, SQUARE, half, hexagon, square
from tests.wrong import NINE, check_arguments, raised

SECTION = (InvalidSection, wrong.SECTIONS)
POINT = (InvalidPoint, wrong.POINTS)


def spots(polygon):
    """The places of the corners."""
    return [spot(corner) for corner in polygon]


class SectionsTest(unittest.TestCase):
    def test_kinds(self):
        for section in ALL:
            self.assertIs(True, sections.is_section(section))
            self.assertIs(True, sections.is_polygon(section))
        for polygon in (((1, 1, 2),), ((0, 0, 1), (0, 1, 1)), ((-1, 5, 2), (0, 0, 1)), NINE):
            self.assertIs(True, sections.is_polygon(polygon))
            self.assertIs(False, sections.is_section(polygon))
        for value in wrong.POLYGONS:
            self.assertIs(False, sections.is_polygon(value))
        for value in wrong.SECTIONS:
            self.assertIs(False, sections.is_section(value))

    def test_hulls(self):
        maker = Maker(2)
        for _ in range(150):
            given = tuple(maker.point(2, 2) for _ in range(maker.random.randint(1, 8)))
            given = given + given[:8 - len(given)]
            expected = tuple(point(x, y) for x, y in hull([spot(each) for each in given]))
            self.assertEqual(expected, sections.polygon_of(given))
            self.assertEqual(expected, sections.polygon_of(given[::-1]))
            self.assertIs(True, sections.is_polygon(expected))
            if len(expected) > 2:
                self.assertEqual(expected, sections.section_of(given))
            else:
                raised(self, NoArea, {}, sections.section_of, given)
        self.assertEqual(((0, 0, 1),), sections.polygon_of(((0, 0, 1),) * 8))
        self.assertEqual(((0, 0, 1), (4, 4, 1)), sections.polygon_of(((1, 1, 1), (4, 4, 1), (0, 0, 1), (3, 3, 2))))

    def test_hulls_in_any_order(self):
        shapes = (((1, 2, 3),), ((1, 2, 3),) * 3, ((0, 0, 1), (3, 3, 1), (1, 1, 1)),
                  ((0, 0, 1), (0, 2, 1), (0, 1, 1), (0, 2, 1)),
                  ((0, 0, 1), (4, 0, 1), (2, 0, 1), (0, 4, 1), (2, 2, 1)), SQUARE + ((1, 0, 1), (1, 1, 1)), hexagon)
        for given in shapes:
            expected = tuple(point(x, y) for x, y in hull([spot(each) for each in given]))
            for order in itertools.islice(itertools.permutations(given), 0, None, 7):
                self.assertEqual(expected, sections.polygon_of(order))
        maker = Maker(14)
        for many in range(1, 9):
            given = [maker.point(3, 10 ** 30) for _ in range(many)]
            expected = tuple(point(x, y) for x, y in hull([spot(each) for each in given]))
            for _ in range(20):
                maker.random.shuffle(given)
                self.assertEqual(expected, sections.polygon_of(tuple(given)))
        # Of eight points the eighth counts, of two that are nearly one each does.
        self.assertEqual(8, len(sections.section_of(NINE[:8])))
        near = (10 ** 30 + 1, 10 ** 30, 10 ** 30)
        self.assertEqual(((0, 0, 1), near, (1, 1, 1)), sections.section_of(((1, 1, 1), near, (0, 0, 1))))

    def test_other_orders_of_corners_are_none(self):
        for section in ALL:
            places = spots(section)
            between_two = point(*((a + b) / 2 for a, b in zip(places[1], places[2])))
            for wrong_one in (section[::-1], section[1:] + section[:1], section[-1:] + section[:-1],
                              section[:1] + section, section + section[:1], list(section),
                              section[:2] + (between_two,) + section[2:],
                              section[:1] + section[:0:-1], section + ([],), section[:-1] + (list(section[-1]),)):
                self.assertIs(False, sections.is_polygon(wrong_one))
                self.assertIs(False, sections.is_section(wrong_one))
            for tiny in (Fraction(1, 10 ** 40), -Fraction(1, 10 ** 40)):
                # A corner a little outside of an edge is one, a little inside it is none.
                (a, b), (c, d) = places[1], places[2]
                beside = point((a + c) / 2 + tiny * (d - b), (b + d) / 2 - tiny * (c - a))
                told = section[:2] + (beside,) + section[2:]
                self.assertIs(tiny > 0, sections.is_polygon(told))
                self.assertIs(tiny > 0 and len(told) < 9, sections.is_section(told))
        for many in range(1, 10):
            self.assertIs(3 <= many <= 8, sections.is_section(sections.polygon_of(NINE[:many]) if many < 9 else NINE))

    def test_just_beside_the_rim(self):
        for section in ALL:
            places = spots(section)
            for (a, b), (c, d) in zip(places, places[1:] + places[:1]):
                for share in (0, Fraction(1, 3), Fraction(10 ** 40, 10 ** 40 + 1)):
                    for tiny in (0, Fraction(1, 10 ** 60), -Fraction(1, 10 ** 60)):
                        x, y = a + share * (c - a) - tiny * (d - b), b + share * (d - b) + tiny * (c - a)
                        inside = all(cross(p, q, (x, y)) > 0 for p, q in zip(places, places[1:] + places[:1]))
                        told = point(x, y)
                        self.assertIs(within(section, (x, y)), sections.holds(section, told))
                        self.assertIs(inside, sections.is_inside(section, told))
                        on_rim = within(section, (x, y)) and not inside
                        self.assertEqual(on_rim, sections.rim_of(section, told) is not None)
        stretch, one = ((0, 0, 1), (3, 1, 1)), ((1, 2, 3),)
        for share, told in (((1, 3), True), ((0, 1), True), ((1, 1), True), ((-1, 10 ** 50), False),
                            ((10 ** 50 + 1, 10 ** 50), False)):
            self.assertIs(told, sections.holds(stretch, between(*stretch, share)))
        self.assertIs(False, sections.holds(stretch, (3 * 10 ** 50, 10 ** 50 + 1, 2 * 10 ** 50)))
        self.assertIs(True, sections.holds(one, (1, 2, 3)))
        self.assertIs(False, sections.holds(one, (10 ** 50 + 1, 2 * 10 ** 50, 3 * 10 ** 50)))

    def test_there_and_back(self):
        for section in ALL:
            for way in ((3, -4, 7), (10 ** 50, 1, 3), (0, 0, 1)):
                back = (-way[0], -way[1], way[2])
                self.assertEqual(section, sections.moved(sections.moved(section, way), back))
            quarters = [section]
            for _ in range(4):
                quarters.append(sections.turned(quarters[-1]))
            self.assertEqual(section, quarters[-1])
            self.assertEqual(section, sections.mirrored(sections.mirrored(section)))
            for n, m in ((3, 7), (10 ** 30, 1), (1, 10 ** 30), (1, 1)):
                there = sections.grown(section, (n, m))
                self.assertEqual(section, sections.grown(there, (m, n)))
                size = number(sections.area_of(section)) * Fraction(n * n, m * m)
                self.assertEqual(pair(size), sections.area_of(there))
            for told in quarters + [sections.mirrored(section), sections.moved(section, (1, 2, 3))]:
                self.assertEqual(sections.area_of(section), sections.area_of(told))
                self.assertEqual(told, sections.polygon_of(told))

    def test_rim_points_of_each_edge(self):
        for section in ALL:
            for edge in range(len(section)):
                for share in ((0, 1), (1, 2), (1, 10 ** 40), (10 ** 40 - 1, 10 ** 40), (355, 452)):
                    self.assertIs(True, sections.is_rim_point(section, (edge, share)))
                    place = sections.on_rim(section, (edge, share))
                    self.assertEqual(rim_spot(section, (edge, share)), spot(place))
                    self.assertEqual((edge, share), sections.rim_of(section, place))
                    self.assertIs(True, sections.holds(section, place))
                    self.assertIs(False, sections.is_inside(section, place))
                for share in ((1, 1), (-1, 2), (2, 4), (0, 3), (3, 2), (10 ** 40, 10 ** 40), (-1, 10 ** 40), (1, -2),
                              (0, -1)):
                    self.assertIs(False, sections.is_rim_point(section, (edge, share)))
                    raised(self, InvalidRimPoint, {"given": (edge, share)}, sections.on_rim, section, (edge, share))
            for edge in (-1, len(section), 10 ** 40, True, "0", None):
                self.assertIs(False, sections.is_rim_point(section, (edge, (1, 2))))

    def test_areas_and_middles(self):
        maker = Maker(3)
        for section in ALL + tuple(maker.polygon(maker.random.randint(3, 8)) for _ in range(60)):
            self.assertEqual(pair(area(spots(section))), sections.area_of(section))
            self.assertEqual(point(*middle(spots(section))), sections.middle_of(section))
        self.assertEqual((0, 1), sections.area_of(((3, 4, 5),)))
        self.assertEqual((0, 1), sections.area_of(((0, 0, 1), (3, 4, 5))))
        great = 10 ** 400
        self.assertEqual((great * great // 2, 1), sections.area_of(((0, 0, 1), (great, 0, 1), (great, great, 1))))

    def test_what_it_has(self):
        maker = Maker(4)
        for _ in range(150):
            polygon = maker.polygon(maker.random.randint(1, 6), 3, 2)
            for place in [maker.point(3, 2), maker.inner_point(polygon)] + list(polygon):
                self.assertEqual(within(polygon, spot(place)), sections.holds(polygon, place))
                if len(polygon) > 2:
                    sides = zip(polygon, polygon[1:] + polygon[:1])
                    inside = all(cross(spot(a), spot(b), spot(place)) > 0 for a, b in sides)
                    self.assertEqual(inside, sections.is_inside(polygon, place))
        self.assertIs(True, sections.holds(((0, 0, 1), (2, 2, 1)), (1, 1, 1)))
        self.assertIs(False, sections.holds(((0, 0, 1), (2, 2, 1)), (3, 3, 1)))
        self.assertIs(False, sections.holds(((0, 0, 1), (2, 2, 1)), (-1, -1, 1)))

    def test_what_a_point_and_a_stretch_have(self):
        steps, tiny = (-1, 0, 1), Fraction(1, 10 ** 40)
        for x, y in [(x, y) for x in steps for y in steps]:
            here = point(Fraction(2 * x, 3), Fraction(5 * y, 7))
            u, v = spot(here)
            for p, q in [(p, q) for p in steps for q in steps]:
                there = point(u + p * tiny, v + q * tiny)
                self.assertIs((p, q) == (0, 0), sections.holds((here,), there))
                if (p, q) != (0, 0):
                    stretch = sections.polygon_of((here, there))
                    for share in (Fraction(-1, 10 ** 9), Fraction(1 + 10 ** 9, 10 ** 9)):
                        self.assertIs(False, sections.holds(stretch, between(here, there, pair(share))))
                    for share in (Fraction(0), Fraction(1, 10 ** 9), Fraction(1)):
                        on_it = between(here, there, pair(share))
                        self.assertIs(True, sections.holds(stretch, on_it))
                        beside = point(*(a + b * tiny * tiny for a, b in zip(spot(on_it), (-q, p))))
                        self.assertIs(False, sections.holds(stretch, beside))

    def test_moved_and_turned(self):
        for section in ALL:
            way, share = (1, -2, 3), (3, 7)
            places = spots(section)
            for told, other in (
                    (sections.moved(section, way), [(x + number((1, 3)), y - number((2, 3))) for x, y in places]),
                    (sections.turned(section), [(-y, x) for x, y in places]),
                    (sections.mirrored(section), [(-x, y) for x, y in places]),
                    (sections.grown(section, share), [(x * number(share), y * number(share)) for x, y in places])):
                self.assertEqual(tuple(point(x, y) for x, y in hull(other)), told)
                self.assertIs(True, sections.is_section(told))

    def test_rim_points(self):
        maker = Maker(5)
        for section in ALL:
            for k, corner in enumerate(section):
                self.assertEqual((k, (0, 1)), sections.rim_of(section, corner))
                self.assertEqual(corner, sections.on_rim(section, (k, (0, 1))))
            for _ in range(12):
                rim = maker.rim(section)
                self.assertIs(True, sections.is_rim_point(section, rim))
                place = sections.on_rim(section, rim)
                self.assertEqual(rim_spot(section, rim), spot(place))
                self.assertEqual(rim, sections.rim_of(section, place))
                other = maker.inner_point(section)
                if sections.is_inside(section, other):
                    self.assertIsNone(sections.rim_of(section, other))
            for value in wrong.rims(section):
                self.assertIs(False, sections.is_rim_point(section, value))
        for off in ((-1, 0, 1), (3, 0, 1), (0, 3, 1), (2, 5, 2), (1, 1, 1)):
            self.assertIsNone(sections.rim_of(SQUARE, off))

    def test_arguments(self):
        for function, right in ((sections.middle_of, square), (sections.turned, half), (sections.mirrored, SQUARE)):
            check_arguments(self, function, {"section": right}, {"section": SECTION})
        polygon = {"polygon": (InvalidPolygon, wrong.POLYGONS)}
        check_arguments(self, sections.area_of, {"polygon": NINE}, polygon)
        check_arguments(self, sections.holds, {"polygon": NINE, "point": (0, 0, 1)}, {**polygon, "point": POINT})
        for function in (sections.is_inside, sections.rim_of):
            check_arguments(self, function, {"section": square, "point": (0, 0, 1)}, {"section": SECTION, "point": POINT})
        check_arguments(self, sections.moved, {"section": square, "way": (0, 0, 1)}, {"section": SECTION, "way": POINT})
        shares = wrong.FRACTIONS + ((0, 1), (-1, 1), (-3, 7))
        check_arguments(self, sections.grown, {"section": square, "fraction": (1, 2)},
                        {"section": SECTION, "fraction": (InvalidFraction, shares)})
        check_arguments(self, sections.on_rim, {"section": square, "rim": (3, (1, 2))},
                        {"section": SECTION, "rim": (InvalidRimPoint, wrong.rims(square))})
        check_arguments(self, sections.is_rim_point, {"section": square, "value": (3, (1, 2))}, {"section": SECTION})

    def test_points_as_arguments(self):
        for function in (sections.polygon_of, sections.section_of):
            check_arguments(self, function, {"points": NINE[:8]}, {})
            for value in wrong.JUNK + (None, [], (), [(0, 0, 1)], 5):
                if isinstance(value, tuple) and value:
                    raised(self, InvalidPoints, {"index": 0}, function, value)
                else:
                    raised(self, InvalidPoints, {"index": None}, function, value)
                    raised(self, InvalidPoints, {"index": None}, function, points=value)
            raised(self, InvalidPoints, {"index": 8}, function, NINE)
            raised(self, InvalidPoints, {"index": 8}, function, NINE[:8] + (None, None))
            for bad in wrong.POINTS:
                raised(self, InvalidPoints, {"index": 3}, function, NINE[:3] + (bad,) + NINE[:6])
                raised(self, InvalidPoints, {"index": 0}, function, (bad, bad) + NINE)
                raised(self, InvalidPoints, {"index": 7}, function, NINE[:7] + (bad,) + NINE[:1])
        raised(self, NoArea, {}, sections.section_of, ((0, 0, 1), (1, 1, 1), (2, 2, 1)))
        raised(self, NoArea, {}, sections.section_of, ((0, 0, 1),))
        raised(self, InvalidPoints, {"index": 1}, sections.section_of, ((0, 0, 1), (1, 1, 0)))


if __name__ == "__main__":
    unittest.main()
