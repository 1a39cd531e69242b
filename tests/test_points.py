"""Fractions, points and directions."""

import unittest
from fractions import Fraction

from hullrests import points
from hullrests.errors import InvalidFraction, InvalidPoint
from tests import wrong
from tests.reckoning import Maker, cross, pair, point, sign, spot
from tests.wrong import check_arguments

GREAT = 10 ** 399 + 7


class PointsTest(unittest.TestCase):
    def test_kinds(self):
        for value in ((0, 1), (1, 1), (-3, 2), (7, 10 ** 60), (10 ** 60 + 1, 10 ** 60)):
            self.assertIs(True, points.is_fraction(value))
        for value in ((0, 0, 1), (1, 2, 3), (-4, 2, 3), (2, 4, 7), (0, 3, 5), (10 ** 60, 1, 1)):
            self.assertIs(True, points.is_point(value))
        for value in ((0, 1), (1, 0), (-1, 0), (0, -1), (3, -2), (-3, -2), (10 ** 60, 1)):
            self.assertIs(True, points.is_direction(value))
        for function, values in ((points.is_fraction, wrong.FRACTIONS), (points.is_point, wrong.POINTS),
                                 (points.is_direction, wrong.DIRECTIONS)):
            for value in values:
                self.assertIs(False, function(value))
                self.assertIs(False, function(value=value))

    def holds(self, a, b, share):
        """Holds what is told of two points and a share by their coordinates."""
        (x, y), (u, v) = spot(a), spot(b)
        self.assertEqual(point(x + u, y + v), points.plus(a, b))
        self.assertEqual(point(x - u, y - v), points.minus(a, b))
        self.assertEqual(point(x * share, y * share), points.times(a, pair(share)))
        self.assertEqual(point(x + share * (u - x), y + share * (v - y)), points.between(a, b, pair(share)))
        self.assertEqual(pair(x * u + y * v), points.inner(a, b))
        self.assertEqual(pair(x * v - y * u), points.cross(a, b))
        self.assertEqual(point(-y, x), points.quarter(a))
        self.assertEqual(0, points.sense(a, b, points.between(a, b, pair(share))))

    def test_reckoning(self):
        maker = Maker(1)
        for _ in range(200):
            a, b, c = maker.point(), maker.point(), maker.point(3, 1)
            self.holds(a, b, maker.fraction(3, 5))
            self.assertEqual(sign(cross(spot(a), spot(b), spot(c))), points.sense(a, b, c))

    def test_great_numbers(self):
        a, b = (GREAT, -1, 3), (1, GREAT, 7)
        self.assertEqual((7 * GREAT + 3, 3 * GREAT - 7, 21), points.plus(a, b))
        self.assertEqual(pair(Fraction(GREAT - GREAT, 21)), points.inner(a, b))
        self.assertEqual(pair(Fraction(GREAT * GREAT + 1, 21)), points.cross(a, b))
        self.assertEqual(1, points.sense((0, 0, 1), (GREAT, GREAT - 1, 1), (GREAT, GREAT, GREAT - 1)))
        self.assertEqual(-1, points.sense((0, 0, 1), (GREAT, GREAT + 1, 1), (1, 1, 1)))

    def test_nearly_reduced(self):
        for many in (2, 3, 7, 2 ** 400, 10 ** 399 + 7):
            self.assertIs(False, points.is_fraction((many * GREAT, many)))
            self.assertIs(True, points.is_fraction((many * GREAT + 1, many)))
            self.assertIs(False, points.is_point((many * GREAT, -many, many)))
            self.assertIs(True, points.is_point((many * GREAT, -many + 1, many)))
            self.assertIs(False, points.is_direction((-many * GREAT, many)))
            self.assertIs(True, points.is_direction((-many * GREAT, many - 1 if many == 2 else many * GREAT + 1)))
        for n in (0, -1, -10 ** 300):
            self.assertIs(False, points.is_fraction((1, n)))
            self.assertIs(False, points.is_point((1, 1, n)))
        # Each two of these three have a common divisor, all three have none.
        self.assertIs(True, points.is_point((6, 10, 15)))
        self.assertIs(False, points.is_point((6, 10, 4)))

    def test_great_and_negative_numbers(self):
        maker, great = Maker(13), 10 ** 90 + 3
        for _ in range(60):
            x, y, u, v = (maker.fraction(5, 4) * great + maker.fraction(5, 9) / great for _ in range(4))
            share = -maker.fraction(9, 5) * great - Fraction(1, great)
            a, b = point(x, y), point(u, v)
            self.holds(a, b, share)
            self.assertEqual((0, 0, 1), points.minus(a, a))
            self.assertEqual(a, points.minus(points.plus(a, b), b))
            self.assertEqual(point(-x, -y), points.quarter(points.quarter(a)))
            for tiny in (Fraction(1, great ** 3), -Fraction(1, great ** 3)):
                # Just beside the line, to the left of the way from the first to the other, or to the right.
                beside = point(x - tiny * (v - y), y + tiny * (u - x))
                self.assertEqual(sign(tiny) if a != b else 0, points.sense(a, b, beside))
        self.assertEqual((0, 0, 1), points.times((5, -7, 3), (0, 1)))
        self.assertEqual((5, -7, 3), points.between((5, -7, 3), (1, 1, 1), (0, 1)))
        self.assertEqual((-1, 2, 1), points.between((0, 0, 1), (1, -2, 1), (-1, 1)))

    def test_arguments(self):
        a, b, c = (1, 2, 3), (0, 0, 1), (-1, 5, 2)
        both = {"point": (InvalidPoint, wrong.POINTS), "other": (InvalidPoint, wrong.POINTS)}
        for function in (points.plus, points.minus, points.inner, points.cross):
            check_arguments(self, function, {"point": a, "other": b}, both)
        check_arguments(self, points.quarter, {"point": a}, {"point": both["point"]})
        check_arguments(self, points.sense, {"point": a, "other": b, "third": c},
                        {**both, "third": (InvalidPoint, wrong.POINTS)})
        fraction = {"fraction": (InvalidFraction, wrong.FRACTIONS)}
        check_arguments(self, points.times, {"point": a, "fraction": (-1, 2)}, {"point": both["point"], **fraction})
        check_arguments(self, points.between, {"point": a, "other": b, "fraction": (5, 2)}, {**both, **fraction})


if __name__ == "__main__":
    unittest.main()
