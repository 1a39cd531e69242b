"""Heels: where the water line lies at an up, the word there, the rests around it, and where a log let go comes to."""

import math
import unittest
from fractions import Fraction

from hullrests import heels
from hullrests.cuts import area_below, area_of_stand, ends_of, height_of, up_of
from hullrests.errors import InvalidArea, InvalidDirection, InvalidLog, InvalidNumber, InvalidSection
from hullrests.metacentres import ballast_for, metacentre
from hullrests.points import plus, quarter
from hullrests.rests import comes_to, kind_of, near, rest_at, rests
from hullrests.righting import righting_tale
from hullrests.sections import mirrored, moved, turned
from hullrests.stands import corner_stands, piece_of, pieces, stand_from
from tests import reckoning, surds, wrong
from tests.reckoning import Maker, number, pair, point, sign, spot, told_once
from tests.shapes import ALL, beam, deep, diamond, half, hexagon, house, octagon, raft, square, wedge
from tests.wrong import check_arguments

FINE = 10 ** 12
WORDS = {1: "left", 0: "rest", -1: "right"}
# On edge 3 its lever is (u + 1) (2 u - 1) (2 u - 1) / 12, with u from -1 to 1 and the share (1 + u) / 2.
SLIDE = (raft, (2, 1), (23, 23, 24))
# Sections that are their own mirror images, each with a line and an up along it.
MIRRORS = ((half, (0, 0), (1, 1)), (half, (0, 0), (-1, -1)), (square, (0, 0), (1, 1)), (square, (1, 0), (-1, 1)),
           (diamond, (0, 0), (0, 1)), (diamond, (0, 0), (1, 0)), (house, (2, 0), (0, -1)), (house, (2, 0), (0, 1)),
           (hexagon, (0, 0), (0, 1)), (hexagon, (0, 0), (-1, 0)), (octagon, (Fraction(3, 2), 0), (0, 1)))


def reduced(c, s):
    """The direction of a pair."""
    divisor = math.gcd(c, s)
    return (c // divisor, s // divisor)


def turned_by(up, step):
    """The up turned counterclockwise by a little: by a step, as a fraction of a quarter's tangent."""
    c, s = up
    n, m = pair(step)
    return reduced(c * m - s * n, s * m + c * n)


def fraction_root(value):
    """Whether the root of a number is a fraction."""
    return all(math.isqrt(part) ** 2 == part for part in (value.numerator, value.denominator))


class HeelsTest(unittest.TestCase):
    def direction(self, maker, most=6):
        """A direction."""
        while True:
            c, s = (maker.random.randint(-most, most) for _ in range(2))
            if (c, s) != (0, 0):
                return reduced(c, s)

    def along_edge(self, maker, section):
        """An up with the water line along an edge, either way."""
        k = maker.random.randrange(len(section))
        (x, y), (u, v) = spot(section[k]), spot(section[k - 1])
        w = math.lcm(*(part.denominator for part in (x, y, u, v))) * maker.random.choice((1, -1))
        return reduced(int((v - y) * w), int((x - u) * w))

    def each(self, many=40):
        """Sections, areas, ballasts and ups."""
        maker = Maker(31)
        for section in ALL * 2 + tuple(maker.polygon(3 + k % 6) for k in range(many)):
            for up in (self.direction(maker), self.along_edge(maker, section)):
                yield section, maker.area(section), maker.random.choice((maker.point(), maker.inner_point(section))), up

    def at_corners(self):
        """Sections, areas and ups at which a corner is on the water line."""
        maker = Maker(32)
        for section in ALL + tuple(maker.polygon(3 + k % 6) for k in range(12)):
            for corner in section:
                up = self.direction(maker)
                area = area_below(section, up, height_of(up, corner))
                if 0 < number(area) < reckoning.area([spot(each) for each in section]):
                    yield section, area, maker.point(), up

    def test_corner_signs(self):
        seen = set()
        for section, area, ballast, up in list(self.each()) + list(self.at_corners()):
            told = heels.corner_signs(section, area, up)
            expected = []
            for corner in section:
                shape = reckoning.below(section, up, reckoning.height(up, spot(corner)))
                size = reckoning.area(shape) if len(shape) > 2 else 0
                expected.append(sign(size - number(area)))
            self.assertEqual(tuple(expected), told)
            self.assertLessEqual(told.count(0), 2)
            self.assertTrue({-1, 1} <= set(told))
            seen.add(told.count(0))
        self.assertLessEqual({0, 1}, seen)
        # A diagonal of the square, and a line along the edge of the house's roof, end at two corners, or at one.
        self.assertEqual((0, -1, 0, 1), heels.corner_signs(square, (1, 2), (-1, 1)))
        self.assertEqual((0, 1, 0, -1), heels.corner_signs(square, (1, 2), (1, -1)))
        self.assertEqual((-1, -1, 0, 1, 0), heels.corner_signs(house, (12, 1), (0, 1)))
        self.assertEqual((-1, -1, -1, 1, -1), heels.corner_signs(house, (12 * 10 ** 40 + 1, 10 ** 40), (0, 1)))
        self.assertEqual((-1, -1, 1, 1, 1), heels.corner_signs(house, (12 * 10 ** 40 - 1, 10 ** 40), (0, 1)))

    def test_words_and_left_ends_beside_a_reckoning(self):
        seen = []
        for section, area, ballast, up in list(self.each()) + list(self.at_corners())[::2]:
            shape, (edge, share, _), (opposite, _, _) = surds.heel(section, up, number(area))
            log = (section, area, ballast)
            word = WORDS[surds.lever_sign(section, ballast, up, number(area))]
            self.assertEqual(word, heels.heel_word(log, up))
            index = heels.heel_piece(section, area, up)
            piece = pieces(section, area)[index]
            self.assertEqual((edge, opposite), (piece[0], piece[3]))
            self.assertTrue(number(piece[1]) <= share < number(piece[2]))
            for many in (1, 7, 10, FINE):
                told, n, is_just = heels.share_near(section, area, up, many)
                self.assertEqual(edge, told)
                self.assertTrue(Fraction(n, many) <= share < Fraction(n + 1, many))
                self.assertIs((share - Fraction(n, many)).sign() == 0, is_just)
            stand = heels.stand_at(section, area, up)
            is_fraction = share.b == 0 or fraction_root(share.d)
            self.assertIs(is_fraction, stand is not None)
            if is_fraction:
                self.assertEqual((up, area), (up_of(section, stand), area_of_stand(section, stand)))
                self.assertEqual((index, edge), (piece_of(section, area, stand[0]), stand[0][0]))
            seen.append((word, is_fraction))
        self.assertLessEqual({("left", True), ("left", False), ("right", True), ("right", False)}, set(seen))

    def test_left_ends_between_two_stands(self):
        # A little clockwise of the left end the up has not come to the heel, a little counterclockwise it is beyond it.
        for section, area, ballast, up in self.each(20):
            edge, n, is_just = heels.share_near(section, area, up, FINE)
            before = up_of(section, stand_from(section, area, (edge, pair(Fraction(n, FINE)))))
            there = (edge, pair(Fraction(n + 1, FINE))) if n + 1 < FINE else ((edge + 1) % len(section), (0, 1))
            behind = up_of(section, stand_from(section, area, there))
            self.assertEqual(0 if is_just else 1, sign(before[0] * up[1] - before[1] * up[0]))
            self.assertEqual(1, sign(up[0] * behind[1] - up[1] * behind[0]))

    def test_heels_of_stands(self):
        maker = Maker(33)
        for section in ALL + tuple(maker.polygon(3 + k % 6) for k in range(20)):
            area = maker.area(section)
            for stand in corner_stands(section, area) + (stand_from(section, area, maker.rim(section)),):
                up = up_of(section, stand)
                self.assertEqual(stand, heels.stand_at(section, area, up))
                # Where two pieces meet it is the one with LOW there.
                self.assertEqual(piece_of(section, area, stand[0]), heels.heel_piece(section, area, up))
                edge, (n, m) = stand[0]
                self.assertEqual((edge, n, True), heels.share_near(section, area, up, m))
                self.assertEqual((edge, 3 * n, True), heels.share_near(section, area, up, 3 * m))
                log = (section, area, maker.point())
                self.assertEqual(reckoning.word(reckoning.lever(section, log[2], stand)), heels.heel_word(log, up))
                self.assertEqual(comes_to(log, stand), heels.heel_comes_to(log, up))
                ends = ends_of(section, stand)
                self.assertEqual(height_of(up, ends[0]), height_of(up, ends[1]))

    def test_rests_that_fractions_tell(self):
        maker = Maker(34)
        for section in ALL + tuple(maker.polygon(3 + k % 6) for k in range(8)):
            area = maker.area(section)
            for stand in (corner_stands(section, area)[1], stand_from(section, area, maker.rim(section)),
                          stand_from(section, area, (0, (0, 1)))):
                up = up_of(section, stand)
                for firm in ((1, 5), (-1, 5)):
                    self.holds_around(section, area, stand, up, firm)

    def holds_around(self, section, area, stand, up, firm):
        """Holds what is told at a rest with this firmness, and at heels just before and just behind it."""
        log = (section, area, ballast_for(section, stand, firm))
        many, index = len(rests(log)), rest_at(log, stand)
        self.assertEqual("rest", heels.heel_word(log, up))
        self.assertEqual((index, index), heels.heel_between(log, up))
        self.assertEqual(index, heels.heel_comes_to(log, up))
        for step in (Fraction(1, 10 ** 9), Fraction(1, 10 ** 60)):
            before, behind = turned_by(up, -step), turned_by(up, step)
            self.assertEqual("right" if firm[0] > 0 else "left", heels.heel_word(log, before))
            self.assertEqual("left" if firm[0] > 0 else "right", heels.heel_word(log, behind))
            self.assertEqual(((index - 1) % many, index), heels.heel_between(log, before))
            self.assertEqual((index, (index + 1) % many), heels.heel_between(log, behind))
            came = (index, index) if firm[0] > 0 else ((index - 1) % many, (index + 1) % many)
            self.assertEqual(came, (heels.heel_comes_to(log, before), heels.heel_comes_to(log, behind)))

    def test_rests_that_no_fractions_tell(self):
        seen = 0
        for section, (x, y), up in MIRRORS:
            size = reckoning.area([spot(each) for each in section])
            for share in (Fraction(1, 5), Fraction(1, 3), Fraction(9, 14), Fraction(6, 7)):
                area = pair(size * share)
                for far in (0, Fraction(3, 7), -5, 10 ** 20):
                    # The ballast is on the line of the mirror.
                    ballast = point(x + far * up[0], y + far * up[1])
                    log = (section, area, ballast)
                    self.assertEqual("rest", heels.heel_word(log, up))
                    index, other = heels.heel_between(log, up)
                    self.assertEqual((index, index), (other, heels.heel_comes_to(log, up)))
                    edge, n, is_just = heels.share_near(section, area, up, FINE)
                    self.assertEqual((edge, n, is_just), near(log, index, FINE))
                    many, kind = len(rests(log)), rests(log)[index]
                    before, behind = (turned_by(up, step) for step in (Fraction(-1, 10 ** 40), Fraction(1, 10 ** 40)))
                    self.assertEqual(((index - 1) % many, index), heels.heel_between(log, before))
                    self.assertEqual((index, (index + 1) % many), heels.heel_between(log, behind))
                    self.assertEqual("right" if kind == "firm" else "left", heels.heel_word(log, before))
                    self.assertEqual("left" if kind == "firm" else "right", heels.heel_word(log, behind))
                    seen += heels.stand_at(section, area, up) is None
                    # A ballast that is off it by as little as one likes is none.
                    for away, word in ((1, "left"), (-1, "right")):
                        beside = plus(ballast, (-away * up[1], away * up[0], 10 ** 300))
                        self.assertEqual(word, heels.heel_word((section, area, beside), up))
        self.assertGreater(seen, 60)

    def test_between_rests(self):
        for section, area, ballast, up in self.each(20):
            log = (section, area, ballast)
            many = len(rests(log))
            places = [near(log, k, FINE)[:2] for k in range(many)]
            here = heels.share_near(section, area, up, FINE)[:2]
            word = heels.heel_word(log, up)
            if here in places:
                continue
            passed = sum(place < here for place in places)
            self.assertNotEqual("rest", word)
            self.assertEqual(((passed - 1) % many, passed % many), heels.heel_between(log, up))
            came = passed - 1 if word == "left" else passed
            self.assertEqual(came % many, heels.heel_comes_to(log, up))

    def test_beside_corner_0(self):
        # Before the first rest, behind the last one, and over corner 0.
        for log in (wedge, beam, deep, SLIDE, (house, (7, 1), (2, 2, 1))):
            section, area, ballast = log
            up, many = up_of(section, stand_from(section, area, (0, (0, 1)))), len(rests(log))
            is_rest = rest_at(log, stand_from(section, area, (0, (0, 1)))) == 0
            self.assertEqual((0, 0) if is_rest else (many - 1, 0), heels.heel_between(log, up))
            for step in (Fraction(1, 10 ** 6), Fraction(1, 10 ** 100)):
                self.assertEqual((many - 1, 0), heels.heel_between(log, turned_by(up, -step)))
                self.assertEqual((0, 1) if is_rest else (many - 1, 0), heels.heel_between(log, turned_by(up, step)))
                self.assertEqual(len(section) - 1, heels.share_near(section, area, turned_by(up, -step), 5)[0])
                self.assertEqual((0, 0, False), heels.share_near(section, area, turned_by(up, step), 5))
        self.assertEqual(3, heels.heel_comes_to(wedge, up_of(half, stand_from(half, (1, 8), (0, (0, 1))))))

    def test_sliding_rests(self):
        index = 5
        at = stand_from(raft, (2, 1), (3, (3, 4)))
        self.assertEqual(("sliding", index), (kind_of(SLIDE, at), rest_at(SLIDE, at)))
        up = up_of(raft, at)
        self.assertEqual((index, index), heels.heel_between(SLIDE, up))
        self.assertEqual(("rest", index), (heels.heel_word(SLIDE, up), heels.heel_comes_to(SLIDE, up)))
        for step in (Fraction(1, 10 ** 3), Fraction(1, 10 ** 90)):
            before, behind = turned_by(up, -step), turned_by(up, step)
            self.assertEqual(["left"] * 2, [heels.heel_word(SLIDE, each) for each in (before, behind)])
            self.assertEqual([(4, 5), (5, 0)], [heels.heel_between(SLIDE, each) for each in (before, behind)])
            # It is `left` on both sides: from behind the log comes onto the sliding one and stays, from before it goes on.
            self.assertEqual([4, 5], [heels.heel_comes_to(SLIDE, each) for each in (before, behind)])

    def test_ballast_at_the_metacentre(self):
        maker = Maker(35)
        for section in ALL:
            area = maker.area(section)
            for stand in (corner_stands(section, area)[0], stand_from(section, area, maker.rim(section))):
                log, up = (section, area, metacentre(section, stand)), up_of(section, stand)
                words = tuple(heels.heel_word(log, turned_by(up, step))
                              for step in (Fraction(-1, 10 ** 20), Fraction(0), Fraction(1, 10 ** 20)))
                kinds = {("right", "rest", "left"): "firm", ("left", "rest", "right"): "tipping",
                         ("left", "rest", "left"): "sliding", ("right", "rest", "right"): "sliding"}
                self.assertEqual(kinds[words], kind_of(log, stand))

    def test_all_round(self):
        # While the up goes round once counterclockwise, so does the left end, and the words are those of the tale.
        for log in (wedge, beam, deep, SLIDE):
            section, area, ballast = log
            start = up_of(section, stand_from(section, area, (0, (0, 1))))
            ups, words = [start], []
            for eighth in range(8):
                ups += [turned_by(ups[-1], Fraction(k, 20)) for k in range(1, 20)] + [turned_by(ups[-1], Fraction(1))]
            self.assertEqual(start, ups.pop())
            places = [heels.share_near(section, area, up, FINE) for up in ups]
            self.assertEqual((0, 0, True), places[0])
            self.assertEqual(sorted(places), places)
            # Behind the last rest comes the first one.
            passed = told_once([heels.heel_between(log, up)[0] for up in ups])
            if passed[0] == len(rests(log)) - 1:
                passed.pop(0)
            self.assertEqual(sorted(passed), passed)
            for up in ups:
                words.append(heels.heel_word(log, up))
            left_over = iter(righting_tale(log))
            self.assertTrue(all(word in left_over for word in told_once(words)))

    def test_turned_moved_mirrored(self):
        way = (10 ** 50, -3, 7)
        for section, area, ballast, up in self.each(5):
            log, (c, s), (x, y, w) = (section, area, ballast), up, ballast
            word = heels.heel_word(log, up)
            there = (moved(section, way), area, plus(ballast, way))
            self.assertEqual((word, heels.heel_between(log, up), heels.heel_comes_to(log, up)), (
                heels.heel_word(there, up), heels.heel_between(there, up), heels.heel_comes_to(there, up)))
            self.assertEqual(heels.stand_at(section, area, up), heels.stand_at(there[0], area, up))
            around = (turned(section), area, quarter(ballast))
            self.assertEqual(word, heels.heel_word(around, (-s, c)))
            back = (mirrored(section), area, (-x, y, w))
            self.assertEqual({"left": "right", "rest": "rest", "right": "left"}[word], heels.heel_word(back, (-c, s)))

    def test_great_numbers(self):
        great = 10 ** 399 + 9
        section = ((0, 0, 1), (great, 0, 1), (great, great // 2, 1), (0, great, 1))
        area = pair(Fraction(great * great, 7))
        for up in ((great, 3), (-3, great), (great, great - 1), (0, -1)):
            for ballast in ((great, great, 3), (1, 1, great)):
                log = (section, area, ballast)
                word = WORDS[surds.lever_sign(section, ballast, up, number(area))]
                self.assertEqual(word, heels.heel_word(log, up))
                first, last = heels.heel_between(log, up)
                self.assertEqual(first if word == "left" else last, heels.heel_comes_to(log, up))

    def test_arguments(self):
        told = {"section": square, "area": (1, 2), "up": (0, 1)}
        three = {"section": (InvalidSection, wrong.SECTIONS), "area": (InvalidArea, wrong.areas(square, (1, 1))),
                 "up": (InvalidDirection, wrong.DIRECTIONS)}
        for function in (heels.corner_signs, heels.heel_piece, heels.stand_at):
            check_arguments(self, function, told, three)
        for many in (1, FINE):
            check_arguments(self, heels.share_near, {**told, "many": many},
                            {**three, "many": (InvalidNumber, wrong.MANY)})
        both = {"log": (InvalidLog, wrong.logs(wedge)), "up": (InvalidDirection, wrong.DIRECTIONS)}
        for function in (heels.heel_word, heels.heel_between, heels.heel_comes_to):
            check_arguments(self, function, {"log": wedge, "up": (3, -2)}, both)


if __name__ == "__main__":
    unittest.main()
