"""Metacentres, firmness, and the ballast with which a stand is a rest."""

import math
import unittest
from fractions import Fraction

from hullrests import metacentres
from hullrests.cuts import area_of_stand
from hullrests.levers import middle_below, word_at
from hullrests.points import minus, plus, quarter, times
from hullrests.rests import kind_of
from hullrests.sections import grown, mirrored, moved, rim_of, turned
from hullrests.sections import on_rim
from hullrests.stands import corner_stands, stand_from
from tests import reckoning
from tests.reckoning import Maker, number, pair, point, sign, spot, way
from tests.shapes import ALL, LEVEL, SLANT, SQUARE, raft

TINY = (1, 10 ** 60)
WORDS = {1: "left", 0: "rest", -1: "right"}


def beside(section, area, left, step):
    """The stand with the left end a little further on, or a little less far."""
    edge, share = left
    share = number(share) + step
    return stand_from(section, area, ((edge + math.floor(share)) % len(section), pair(share % 1)))


class MetacentresTest(unittest.TestCase):
    def each(self, many=14):
        maker = Maker(21)
        for section in ALL + tuple(maker.polygon(3 + k % 6) for k in range(many)):
            area = maker.area(section)
            corners = corner_stands(section, area)
            for stand in (corners[0], corners[-1], stand_from(section, area, maker.rim(section))):
                yield maker, section, area, stand

    def test_by_hand(self):
        # A box, b broad and d deep in the water: the metacentre is d / 2 + b b / (12 d) above the bottom.
        for broad in (1, 3, 10 ** 40):
            box = ((0, 0, 1), (broad, 0, 1), (broad, 6, 1), (0, 6, 1))
            for deep in (Fraction(1), Fraction(5, 2), Fraction(1, 10 ** 50)):
                share = pair(deep / 6)
                stand = ((3, pair(1 - deep / 6)), (1, share))
                high = deep / 2 + Fraction(broad * broad) / (12 * deep)
                self.assertEqual(point(Fraction(broad, 2), high), metacentres.metacentre(box, stand))
                self.assertEqual(pair(broad * (high - 1)), metacentres.firmness(box, (0, 1, 1), stand))
                self.assertEqual(pair(broad * high), metacentres.firmness(box, (broad, 0, 1), stand))
        self.assertEqual((1, 0, 1), metacentres.ballast_line(SQUARE, LEVEL))
        self.assertEqual((-1, 0, -1), metacentres.ballast_line(SQUARE, LEVEL[::-1]))
        self.assertEqual((0, -1, -1), metacentres.ballast_line(SQUARE, ((2, (1, 2)), (0, (1, 2)))))
        self.assertEqual((1, -2, -1), metacentres.ballast_line(SQUARE, SLANT))
        self.assertEqual((6, 5, 6), metacentres.ballast_for(SQUARE, LEVEL, (0, 1)))
        self.assertEqual((1, 0, 1), metacentres.ballast_for(SQUARE, LEVEL, (5, 3)))

    def test_beside_the_middle_and_the_water_line(self):
        for maker, section, area, stand in self.each():
            (x, y), c = spot(middle_below(section, stand)), way(section, stand)
            self.assertEqual((x, y), reckoning.middle(reckoning.wet(section, stand)))
            share = (c[0] ** 2 + c[1] ** 2) / (12 * number(area_of_stand(section, stand)))
            self.assertEqual(point(x - share * c[1], y + share * c[0]), metacentres.metacentre(section, stand))
            self.assertEqual(spot(metacentres.metacentre(section, stand)), reckoning.metacentre(section, stand))
            for ballast in (maker.point(), maker.inner_point(section), metacentres.metacentre(section, stand)):
                told = metacentres.firmness(section, ballast, stand)
                self.assertEqual(pair(reckoning.firmness(section, ballast, stand)), told)
            self.assertEqual((0, 1), told)

    def test_ballast_for_a_firmness_and_back(self):
        for maker, section, area, stand in self.each():
            for share in ((0, 1), TINY, (-1, 10 ** 60), (10 ** 80, 7), (-5, 3), pair(maker.fraction(9, 7))):
                ballast = metacentres.ballast_for(section, stand, share)
                self.assertEqual(share, metacentres.firmness(section, ballast, stand))
                self.assertEqual(pair(reckoning.firmness(section, ballast, stand)), share)
                self.assertEqual("rest", word_at(section, ballast, stand))
                self.assertEqual(0, reckoning.lever(section, ballast, stand))
                if share[0] != 0:
                    kind = "firm" if share[0] > 0 else "tipping"
                    self.assertEqual(kind, kind_of((section, area, ballast), stand))
                # Further along the water line the firmness stays, and the stand is no rest any more.
                ahead = plus(ballast, times(point(*way(section, stand)), TINY))
                self.assertEqual(share, metacentres.firmness(section, ahead, stand))
                self.assertEqual("right", word_at(section, ahead, stand))

    def test_ballast_lines(self):
        for maker, section, area, stand in self.each():
            a, b, h = metacentres.ballast_line(section, stand)
            self.assertEqual([int] * 3, [each.__class__ for each in (a, b, h)])
            self.assertEqual(1, math.gcd(a, b, h))
            for share in ((0, 1), (7, 2), (-7, 2), (10 ** 50, 1)):
                x, y = spot(metacentres.ballast_for(section, stand, share))
                self.assertEqual(h, a * x + b * y)
            for ballast in (maker.point(), maker.inner_point(section), section[0], (10 ** 50, -3, 7)):
                x, y = spot(ballast)
                word = WORDS[sign(h - a * x - b * y)]
                self.assertEqual(word, reckoning.word(reckoning.lever(section, ballast, stand)))
                self.assertEqual(word, word_at(section, ballast, stand))

    def test_levers_a_little_before_and_behind(self):
        step = Fraction(1, 10 ** 15)
        for maker, section, area, stand in self.each():
            for share in ((1, 9), (-1, 9), (40, 1), (-40, 1)):
                ballast = metacentres.ballast_for(section, stand, share)
                before, behind = beside(section, area, stand[0], -step), beside(section, area, stand[0], step)
                self.assertEqual(-sign(share[0]), sign(reckoning.lever(section, ballast, before)))
                self.assertEqual(sign(share[0]), sign(reckoning.lever(section, ballast, behind)))
                self.assertEqual(WORDS[-sign(share[0])], word_at(section, ballast, before))
                self.assertEqual(WORDS[sign(share[0])], word_at(section, ballast, behind))

    def test_moved_turned_mirrored_grown(self):
        away = (10 ** 40, -7, 3)
        for maker, section, area, stand in self.each(4):
            ends, ballast = [on_rim(section, rim) for rim in stand], maker.point()
            told, firm = metacentres.metacentre(section, stand), metacentres.firmness(section, ballast, stand)
            for change, map_point in (
                    (lambda each: moved(each, away), lambda each: plus(each, away)), (turned, quarter),
                    (lambda each: grown(each, (3, 7)), lambda each: times(each, (3, 7)))):
                there = change(section)
                other = tuple(rim_of(there, map_point(end)) for end in ends)
                self.assertEqual(map_point(told), metacentres.metacentre(there, other))
                factor = Fraction(9, 49) if there == grown(section, (3, 7)) else 1
                self.assertEqual(pair(number(firm) * factor),
                                 metacentres.firmness(there, map_point(ballast), other))
            there = mirrored(section)
            left, right = ((-x, y, w) for x, y, w in ends)
            other = (rim_of(there, right), rim_of(there, left))
            x, y, w = told
            self.assertEqual((-x, y, w), metacentres.metacentre(there, other))
            x, y, w = ballast
            self.assertEqual(firm, metacentres.firmness(there, (-x, y, w), other))
            a, b, h = metacentres.ballast_line(section, stand)
            # In the mirror `left` is `right`: the other side of the mirrored line.
            self.assertEqual((a, -b, -h), metacentres.ballast_line(there, other))

    def test_where_a_log_upside_down_is_a_rest(self):
        # The line of the middles under water and above it is square to the water line only for some stands.
        line, back = (metacentres.ballast_line(raft, each) for each in (LEVEL, LEVEL[::-1]))
        self.assertEqual(tuple(-each for each in line), back)
        for maker, section, area, stand in self.each(3):
            line, back = (metacentres.ballast_line(section, each) for each in (stand, stand[::-1]))
            self.assertEqual(0, line[0] * back[1] - line[1] * back[0])
            self.assertLess(line[0] * back[0] + line[1] * back[1], 0)

    def test_great_numbers(self):
        great = 10 ** 399 + 7
        section = ((0, 0, 1), (great, 1, 1), (great, great, 1), (1, great, great - 1))
        self.assertEqual(4, len(section))
        stand = ((3, (1, great)), (1, (great - 1, great)))
        self.assertEqual(reckoning.metacentre(section, stand), spot(metacentres.metacentre(section, stand)))
        ballast = metacentres.ballast_for(section, stand, (-1, great))
        self.assertEqual((-1, great), metacentres.firmness(section, ballast, stand))
        a, b, h = metacentres.ballast_line(section, stand)
        self.assertEqual(h * ballast[2], a * ballast[0] + b * ballast[1])
        self.assertEqual("left", word_at(section, minus(ballast, (a, b, great ** 5)), stand))


if __name__ == "__main__":
    unittest.main()
