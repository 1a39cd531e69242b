"""Fractions, points and directions."""

import unittest
from fractions import Fraction

from hullrests import points
from hullrests.errors import InvalidFraction, InvalidPoint
from tests import wrong
from tests.reckoning import Maker, cross, pair, point, sign, spot
from tests.wrong import check_arguments

GREAT = 10 ** 399 + 7


class PointsTest(unittest.TestCase):
    def test_kinds(self):
        for value in ((0, 1), (1, 1), (-3, 2), (7, 10 ** 60), (10 ** 60 + 1, 10 ** 60)):
            self.assertIs(True, points.is_fraction(value))
        for value in ((0, 0, 1), (1, 2, 3), (-4, 2, 3), (2, 4, 7), (0, 3, 5), (10 ** 60, 1, 1)):
            self.assertIs(True, points.is_point(value))
        for value in ((0, 1), (1, 0), (-1, 0), (0, -1), (3, -2), (-3, -2), (10 ** 60, 1)):
            self.assertIs(True, points.is_direction(value))
        for function, values in ((points.is_fraction, wrong.FRACTIONS), (points.is_point, wrong.POINTS),
                                 (points.is_direction, wrong.DIRECTIONS)):
            for value in values:
                self.assertIs(False, function(value))
                self.assertIs(False, function(value=value))

    def test_reckoning(self):
        maker = Maker(1)
        for _ in range(200):
            a, b, c = maker.point(), maker.point(), maker.point(3, 1)
            share = maker.fraction(3, 5)
            (x, y), (u, v), place = spot(a), spot(b), spot(c)
            self.assertEqual(point(x + u, y + v), points.plus(a, b))
            self.assertEqual(point(x - u, y - v), points.minus(a, b))
            self.assertEqual(point(x * share, y * share), points.times(a, pair(share)))
            self.assertEqual(point(x + share * (u - x), y + share * (v - y)), points.between(a, b, pair(share)))
            self.assertEqual(pair(x * u + y * v), points.inner(a, b))
            self.assertEqual(pair(x * v - y * u), points.cross(a, b))
            self.assertEqual(point(-y, x), points.quarter(a))
            self.assertEqual(sign(cross((x, y), (u, v), place)), points.sense(a, b, c))
            self.assertEqual(0, points.sense(a, b, points.between(a, b, pair(share))))

    def test_great_numbers(self):
        a, b = (GREAT, -1, 3), (1, GREAT, 7)
        self.assertEqual((7 * GREAT + 3, 3 * GREAT - 7, 21), points.plus(a, b))
        self.assertEqual(pair(Fraction(GREAT - GREAT, 21)), points.inner(a, b))
        self.assertEqual(pair(Fraction(GREAT * GREAT + 1, 21)), points.cross(a, b))
        self.assertEqual(1, points.sense((0, 0, 1), (GREAT, GREAT - 1, 1), (GREAT, GREAT, GREAT - 1)))
        self.assertEqual(-1, points.sense((0, 0, 1), (GREAT, GREAT + 1, 1), (1, 1, 1)))

    def test_arguments(self):
        a, b, c = (1, 2, 3), (0, 0, 1), (-1, 5, 2)
        both = {"point": (InvalidPoint, wrong.POINTS), "other": (InvalidPoint, wrong.POINTS)}
        for function in (points.plus, points.minus, points.inner, points.cross):
            check_arguments(self, function, {"point": a, "other": b}, both)
        check_arguments(self, points.quarter, {"point": a}, {"point": both["point"]})
        check_arguments(self, points.sense, {"point": a, "other": b, "third": c},
                        {**both, "third": (InvalidPoint, wrong.POINTS)})
        fraction = {"fraction": (InvalidFraction, wrong.FRACTIONS)}
        check_arguments(self, points.times, {"point": a, "fraction": (-1, 2)}, {"point": both["point"], **fraction})
        check_arguments(self, points.between, {"point": a, "other": b, "fraction": (5, 2)}, {**both, **fraction})


if __name__ == "__main__":
    unittest.main()
