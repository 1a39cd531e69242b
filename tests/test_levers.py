"""Levers, rises, metacentres and firmness, beside the tests' own reckoning."""

import math
import unittest
from fractions import Fraction

from hullrests import levers, metacentres
from hullrests.cuts import area_of_stand
from hullrests.errors import InvalidFraction, InvalidPoint, InvalidSection, InvalidStand
from hullrests.points import plus, quarter, times
from hullrests.righting import righting_row
from hullrests.rows import sign_tale
from hullrests.sections import middle_of
from hullrests.stands import pieces, stand_from
from tests import reckoning, wrong
from tests.reckoning import Maker, number, pair, point, spot, way, wet, word
from tests.shapes import ALL, LEVEL, SLANT, SQUARE, square
from tests.wrong import check_arguments

SECTION = (InvalidSection, wrong.SECTIONS)
BALLAST = (InvalidPoint, wrong.POINTS)
STAND = (InvalidStand, wrong.stands(square))
MIRROR = ((1, (1, 2)), (3, (1, 2)))


class LeversTest(unittest.TestCase):
    def each(self, many=40):
        maker = Maker(9)
        for section in ALL + tuple(maker.polygon(maker.random.randint(3, 8)) for _ in range(many)):
            for ballast in (maker.point(), maker.inner_point(section), section[1]):
                stand = stand_from(section, maker.area(section), maker.rim(section, 4))
                yield maker, section, ballast, stand

    def test_levers(self):
        for maker, section, ballast, stand in self.each():
            arm = reckoning.lever(section, ballast, stand)
            self.assertEqual(pair(arm), levers.lever(section, ballast, stand))
            self.assertEqual(word(arm), levers.word_at(section, ballast, stand))
            self.assertEqual(pair(reckoning.rise(section, ballast, stand)), levers.rise(section, ballast, stand))
            self.assertEqual(point(*reckoning.middle(wet(section, stand))), levers.middle_below(section, stand))

    def test_words_on_both_sides(self):
        tiny = (1, 10 ** 60)
        for maker, section, ballast, stand in self.each(12):
            c = way(section, stand)
            on_line = metacentres.ballast_for(section, stand, pair(maker.fraction(4, 5)))
            self.assertEqual((0, 1), levers.lever(section, on_line, stand))
            self.assertEqual("rest", levers.word_at(section, on_line, stand))
            ahead, square_of = point(*c), c[0] ** 2 + c[1] ** 2
            for share, told in ((tiny, "right"), ((-1, 10 ** 60), "left"), ((10 ** 60, 1), "right"),
                                ((-10 ** 60, 1), "left")):
                beside = plus(on_line, times(ahead, share))
                self.assertEqual(told, levers.word_at(section, beside, stand))
                self.assertEqual(pair(-number(share) * square_of), levers.lever(section, beside, stand))
                self.assertEqual(levers.rise(section, on_line, stand), levers.rise(section, beside, stand))
                above = plus(on_line, times(quarter(ahead), share))
                self.assertEqual("rest", levers.word_at(section, above, stand))
                rise = number(levers.rise(section, on_line, stand))
                self.assertEqual(pair(rise + number(share) * square_of), levers.rise(section, above, stand))
            self.assertEqual((0, 1), levers.rise(section, levers.middle_below(section, stand), stand))
            self.assertEqual((0, 1), levers.lever(section, levers.middle_below(section, stand), stand))

    def test_the_log_upside_down(self):
        # What is under water and what is above it balance about the section's middle.
        for maker, section, ballast, stand in self.each(8):
            size, back = (number(area_of_stand(section, each)) for each in (stand, stand[::-1]))
            middle = middle_of(section)
            self.assertEqual(number(levers.lever(section, middle, stand)) * size,
                             number(levers.lever(section, middle, stand[::-1])) * back)
            self.assertEqual(levers.word_at(section, middle, stand), levers.word_at(section, middle, stand[::-1]))

    def test_compare_by_hand(self):
        # At LEVEL the true height of (x, y) is y - 1 / 2, at SLANT it is (2 x + y - 4 / 3) / root(5).
        def told(x, y):
            return levers.compare(SQUARE, point(x, y), LEVEL, SLANT)

        self.assertEqual("same", told(Fraction(5, 12), Fraction(1, 2)))
        self.assertEqual("higher", told(Fraction(5, 12), Fraction(3, 5)))
        self.assertEqual("lower", told(Fraction(5, 12), Fraction(2, 5)))
        self.assertEqual(("higher", "lower"), (told(0, 1), told(1, 1)))
        # One is above the middle of its water, the other one below it, or both are below.
        self.assertEqual(("lower", "higher"), (told(1, Fraction(1, 3)), told(Fraction(1, 3), Fraction(3, 5))))
        self.assertEqual(("lower", "higher"), (told(0, -1), told(-9, -1)))
        for y in (1, 7, -3, 10 ** 30):
            # The heights are the same for x = (root(5) (y - 1 / 2) - y + 4 / 3) / 2, which is no fraction.
            for many in (10 ** 3, 10 ** 50):
                gap = Fraction(2 * y - 1, 2) * many
                root = math.isqrt(int(5 * gap * gap)) * (1 if gap > 0 else -1)
                for step, word_of in ((-1, "higher"), (2, "lower")):
                    x = (Fraction(root + step, many) - y + Fraction(4, 3)) / 2
                    self.assertEqual(word_of, told(x, y))
        swapped = {"same": "same", "lower": "higher", "higher": "lower"}
        for maker, section, ballast, stand in self.each(6):
            other = stand_from(section, maker.area(section), maker.rim(section, 4))
            self.assertEqual(swapped[levers.compare(section, ballast, stand, other)],
                             levers.compare(section, ballast, other, stand))

    def test_heights_along_the_stands_of_an_area(self):
        # The true height falls where the lever is below 0, and grows where it is above 0.
        for section in ALL:
            size = pair(Fraction(2, 5) * reckoning.area([spot(corner) for corner in section]))
            log = (section, size, section[0])
            for index, (edge, low, high, opposite) in enumerate(pieces(section, size)):
                row = righting_row(log, index)
                if sign_tale(row, low, high) in ((1,), (-1,)):
                    shares = [number(low) + part * (number(high) - number(low)) / 4 for part in range(4)]
                    told = [stand_from(section, size, (edge, pair(share))) for share in shares]
                    for here, there in zip(told, told[1:]):
                        expected = "lower" if levers.word_at(section, section[0], here) == "left" else "higher"
                        self.assertEqual(expected, levers.compare(section, section[0], here, there))

    def test_compare(self):
        words = {-1: "lower", 0: "same", 1: "higher"}
        for maker, section, ballast, stand in self.each(10):
            other = stand_from(section, maker.area(section), maker.rim(section, 4))
            squares = []
            for each in (stand, other):
                rise, (x, y) = reckoning.rise(section, ballast, each), way(section, each)
                squares.append(rise * abs(rise) / (x * x + y * y))
            self.assertEqual(words[reckoning.sign(squares[0] - squares[1])],
                             levers.compare(section, ballast, stand, other))
            self.assertEqual("same", levers.compare(section, ballast, stand, stand))
        self.assertEqual("same", levers.compare(square, (1, 1, 2), LEVEL, MIRROR))
        self.assertEqual("higher", levers.compare(SQUARE, (1, 1, 1), SLANT, LEVEL))
        self.assertEqual("lower", levers.compare(square, (1, 1, 4), LEVEL, MIRROR))

    def test_metacentres(self):
        for maker, section, ballast, stand in self.each():
            x, y = reckoning.metacentre(section, stand)
            c, (u, v) = way(section, stand), spot(ballast)
            self.assertEqual(point(x, y), metacentres.metacentre(section, stand))
            self.assertEqual(pair(-c[1] * (x - u) + c[0] * (y - v)), metacentres.firmness(section, ballast, stand))
            share = pair(maker.fraction(4, 5))
            made = metacentres.ballast_for(section, stand, share)
            self.assertEqual(share, metacentres.firmness(section, made, stand))
            self.assertEqual(0, reckoning.lever(section, made, stand))

    def test_ballast_lines(self):
        for maker, section, ballast, stand in self.each():
            a, b, h = metacentres.ballast_line(section, stand)
            self.assertFalse(any(a % d == b % d == h % d == 0 for d in (2, 3, 5, 7, 11, 13)))
            x, y = spot(ballast)
            over = a * x + b * y - h
            self.assertEqual(reckoning.sign(-over), reckoning.sign(reckoning.lever(section, ballast, stand)))
            x, y = spot(metacentres.metacentre(section, stand))
            self.assertEqual(h, a * x + b * y)

    def test_arguments(self):
        told, both = {"section": square, "stand": SLANT}, {"section": SECTION, "stand": STAND}
        for function in (levers.middle_below, metacentres.metacentre, metacentres.ballast_line):
            check_arguments(self, function, told, both)
        told = {"section": square, "ballast": (9, 9, 1), "stand": LEVEL}
        three = {"section": SECTION, "ballast": BALLAST, "stand": STAND}
        for function in (levers.lever, levers.word_at, levers.rise, metacentres.firmness):
            check_arguments(self, function, told, three)
        check_arguments(self, levers.compare, {**told, "other": SLANT}, {**three, "other": STAND})
        check_arguments(self, metacentres.ballast_for, {"section": square, "stand": SLANT, "fraction": (-7, 2)},
                        {**both, "fraction": (InvalidFraction, wrong.FRACTIONS)})


if __name__ == "__main__":
    unittest.main()
