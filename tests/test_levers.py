"""Levers, rises, metacentres and firmness, beside the tests' own reckoning."""

import unittest

from hullrests import levers, metacentres
from hullrests.errors import InvalidFraction, InvalidPoint, InvalidSection, InvalidStand
from hullrests.stands import stand_from
from tests import reckoning, wrong
from tests.reckoning import Maker, number, pair, point, spot, way, wet, word
from tests.shapes import ALL, LEVEL, SLANT, SQUARE, square
from tests.wrong import check_arguments

SECTION = (InvalidSection, wrong.SECTIONS)
BALLAST = (InvalidPoint, wrong.POINTS)
STAND = (InvalidStand, wrong.stands(square))
MIRROR = ((1, (1, 2)), (3, (1, 2)))


class LeversTest(unittest.TestCase):
    def each(self, many=40):
        maker = Maker(9)
        for section in ALL + tuple(maker.polygon(maker.random.randint(3, 8)) for _ in range(many)):
            for ballast in (maker.point(), maker.inner_point(section), section[1]):
                stand = stand_from(section, maker.area(section), maker.rim(section, 4))
                yield maker, section, ballast, stand

    def test_levers(self):
        for maker, section, ballast, stand in self.each():
            arm = reckoning.lever(section, ballast, stand)
            self.assertEqual(pair(arm), levers.lever(section, ballast, stand))
            self.assertEqual(word(arm), levers.word_at(section, ballast, stand))
            self.assertEqual(pair(reckoning.rise(section, ballast, stand)), levers.rise(section, ballast, stand))
            self.assertEqual(point(*reckoning.middle(wet(section, stand))), levers.middle_below(section, stand))

    def test_compare(self):
        words = {-1: "lower", 0: "same", 1: "higher"}
        for maker, section, ballast, stand in self.each(10):
            other = stand_from(section, maker.area(section), maker.rim(section, 4))
            squares = []
            for each in (stand, other):
                rise, (x, y) = reckoning.rise(section, ballast, each), way(section, each)
                squares.append(rise * abs(rise) / (x * x + y * y))
            self.assertEqual(words[reckoning.sign(squares[0] - squares[1])],
                             levers.compare(section, ballast, stand, other))
            self.assertEqual("same", levers.compare(section, ballast, stand, stand))
        self.assertEqual("same", levers.compare(square, (1, 1, 2), LEVEL, MIRROR))
        self.assertEqual("higher", levers.compare(SQUARE, (1, 1, 1), SLANT, LEVEL))
        self.assertEqual("lower", levers.compare(square, (1, 1, 4), LEVEL, MIRROR))

    def test_metacentres(self):
        for maker, section, ballast, stand in self.each():
            x, y = reckoning.metacentre(section, stand)
            c, (u, v) = way(section, stand), spot(ballast)
            self.assertEqual(point(x, y), metacentres.metacentre(section, stand))
            self.assertEqual(pair(-c[1] * (x - u) + c[0] * (y - v)), metacentres.firmness(section, ballast, stand))
            share = pair(maker.fraction(4, 5))
            made = metacentres.ballast_for(section, stand, share)
            self.assertEqual(share, metacentres.firmness(section, made, stand))
            self.assertEqual(0, reckoning.lever(section, made, stand))

    def test_ballast_lines(self):
        for maker, section, ballast, stand in self.each():
            a, b, h = metacentres.ballast_line(section, stand)
            self.assertFalse(any(a % d == b % d == h % d == 0 for d in (2, 3, 5, 7, 11, 13)))
            x, y = spot(ballast)
            over = a * x + b * y - h
            self.assertEqual(reckoning.sign(-over), reckoning.sign(reckoning.lever(section, ballast, stand)))
            x, y = spot(metacentres.metacentre(section, stand))
            self.assertEqual(h, a * x + b * y)

    def test_arguments(self):
        told, both = {"section": square, "stand": SLANT}, {"section": SECTION, "stand": STAND}
        for function in (levers.middle_below, metacentres.metacentre, metacentres.ballast_line):
            check_arguments(self, function, told, both)
        told = {"section": square, "ballast": (9, 9, 1), "stand": LEVEL}
        three = {"section": SECTION, "ballast": BALLAST, "stand": STAND}
        for function in (levers.lever, levers.word_at, levers.rise, metacentres.firmness):
            check_arguments(self, function, told, three)
        check_arguments(self, levers.compare, {**told, "other": SLANT}, {**three, "other": STAND})
        check_arguments(self, metacentres.ballast_for, {"section": square, "stand": SLANT, "fraction": (-7, 2)},
                        {**both, "fraction": (InvalidFraction, wrong.FRACTIONS)})


if __name__ == "__main__":
    unittest.main()
