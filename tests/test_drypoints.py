"""Dry and wet points: at stands, along arcs, and at all heels."""

import unittest
from fractions import Fraction

from hullrests import drypoints
from hullrests.cuts import area_of_stand, ends_of, line_through
from hullrests.errors import (InvalidArc, InvalidArea, InvalidIndex, InvalidNumber, InvalidPoint, InvalidPoints,
                              InvalidSection, InvalidStand, InvalidWord, NotInside)
from hullrests.points import between, sense
from hullrests.sections import is_inside, middle_of
from hullrests.stands import is_on_arc, pieces, stand_from, stretches
from tests import wrong
from tests.reckoning import Maker, area, cross, number, pair, point, rim_spot, sign, spot, told_once
from tests.shapes import ALL, flat, half, hexagon, raft, span, square
from tests.wrong import NINE, check_arguments, raised

FINE = 10 ** 9
WORDS = {1: "dry", 0: "rim", -1: "wet"}
ORDER = ("dry", "rim", "wet")
SECTION = (InvalidSection, wrong.SECTIONS)
AREA = (InvalidArea, wrong.areas(raft, (4, 1)))
POINT = (InvalidPoint, wrong.POINTS)
ARC = (InvalidArc, wrong.arcs(raft))
NO_WORDS = wrong.JUNK + (None, 0, 1, "left", "right", "rest", "rim", "Dry", "wet ", (), ("wet",), ["dry"], b"wet")
LEFT_HALF = ((0, (0, 1)), (0, (1, 2)))
hatch, shelf = (2, 3, 2), (7, 4, 4)
# The section's area is 4, and it has no parallel edges.
SKEW = ((0, 0, 1), (3, 0, 1), (2, 2, 1), (0, 1, 1))


def side_of(section, stand, place):
    """1, 0 or -1, as a point is dry, on the water line or wet, by the triangle of both ends and it."""
    left, right = rim_spot(section, stand[0]), rim_spot(section, stand[1])
    return sign(cross(left, right, spot(place)))


def left_at(section, edge, share):
    """The left end with a share up to 1 of an edge."""
    return (edge, pair(share)) if share < 1 else ((edge + 1) % len(section), (0, 1))


def lefts_on(section, size, arc, parts):
    """Left ends along an arc in their order, some on each stretch, its ends too; once round without the last one."""
    told, found = pieces(section, size), []
    for index, low, high in stretches(section, size, arc):
        for part in range(parts + 1):
            share = number(low) + Fraction(part, parts) * (number(high) - number(low))
            found.append(left_at(section, told[index][0], share))
    return told_once(found if arc is not None else found[:-1])


def arcs_of(maker, section):
    """Arcs of each kind: all, one rim point, within an edge, over several, past corner 0, nearly once round."""
    edge, last = maker.random.randrange(len(section)), len(section) - 1
    return (None, ((edge, (1, 3)), (edge, (1, 3))), ((edge, (0, 1)), (edge, (0, 1))), ((edge, (1, 5)), (edge, (1, 2))),
            ((0, (1, 2)), (2, (1, 3))), ((last, (1, 4)), (1, (1, 2))), ((edge, (1, 2)), (edge, (2, 5))),
            ((1, (0, 1)), (0, (0, 1))), (maker.rim(section, 2), maker.rim(section)))


def points_of(maker, section):
    """Points inside, on the rim, at a corner, outside."""
    k = maker.random.randrange(len(section))
    return (maker.inner_point(section), middle_of(section), section[k], between(section[k - 1], section[k], (1, 3)),
            maker.point(), maker.point(30, 2))


class DryPointsTest(unittest.TestCase):
    def cases(self, seed, many):
        maker = Maker(seed)
        for k in range(many):
            section = ALL[k % len(ALL)] if k % 2 == 0 else maker.polygon(3 + k % 6)
            place = maker.random.choice(points_of(maker, section))
            yield maker, section, maker.area(section), place, arcs_of(maker, section)[k % 9]

    def test_wetness(self):
        for maker, section, size, place, arc in self.cases(61, 60):
            for left in lefts_on(section, size, arc, 2):
                stand = stand_from(section, size, left)
                self.assertEqual(WORDS[side_of(section, stand, place)], drypoints.wetness(section, stand, place))
                ends = ends_of(section, stand)
                for share in ((0, 1), (1, 1), (1, 3), (-2, 1), (7, 2)):
                    self.assertEqual("rim", drypoints.wetness(section, stand, between(*ends, share)))
                for k, corner in enumerate(section):
                    expected = WORDS[sense(*ends, corner)]
                    self.assertEqual(expected, drypoints.wetness(section, stand, corner))
                    back = {"dry": "wet", "wet": "dry", "rim": "rim"}[expected]
                    self.assertEqual(back, drypoints.wetness(section, stand[::-1], corner))

    def test_words_and_tales(self):
        for maker, section, size, place, arc in self.cases(62, 200):
            tale = drypoints.wet_tale(section, size, place, arc)
            lefts = lefts_on(section, size, arc, 5)
            seen = [WORDS[side_of(section, stand_from(section, size, left), place)] for left in lefts]
            self.assertEqual(seen[0], tale[0])
            if arc is not None:
                self.assertEqual(seen[-1], tale[-1])
            self.assertEqual(told_once(tale), list(tale))
            left_over = iter(tale)
            self.assertTrue(all(each in left_over for each in told_once(seen)))
            self.assertEqual(tuple(word for word in ORDER if word in tale),
                             drypoints.wet_words(section, size, place, arc))
            self.holds_changes(section, size, place, arc, tale)
            self.holds_stands_with(section, size, place, arc, tale)

    def holds_changes(self, section, size, place, arc, tale):
        """Holds the changes by the words at many left ends, and at those that are told exactly."""
        edge, share = (0, (0, 1)) if arc is None else arc[0]
        first, tiny = edge + number(share), Fraction(1, FINE)
        starts = []
        for k in range(len(tale)):
            edge, n, is_just = drypoints.wet_change(section, size, place, arc, k, FINE)
            self.assertTrue(0 <= n < FINE and 0 <= edge < len(section))
            gone = edge + Fraction(n, FINE) - first
            starts.append(gone if -tiny < gone < 0 else gone % len(section))
            if k > 0:
                self.assertIn("rim", (tale[k - 1], tale[k]))
                self.assertEqual(is_just, self.word_near(section, size, place, edge, Fraction(n, FINE)) == "rim")
        self.assertTrue(-tiny < starts[0] <= 0)
        self.assertEqual(sorted(starts), starts)
        for edge, share in lefts_on(section, size, arc, 7)[1:]:
            at = (edge + number(share) - first) % len(section)
            near = [k for k, start in enumerate(starts) if abs(start - at) <= tiny and k > 0]
            told = {tale[k] for k in near} | {tale[k - 1] for k in near}
            if not near:
                told = {tale[[k for k, start in enumerate(starts) if start < at or k == 0][-1]]}
            self.assertIn(self.word_near(section, size, place, edge, number(share)), told)

    def word_near(self, section, size, place, edge, share):
        """The word at a left end on an edge, or a little beyond it."""
        edge = edge + (share >= 1) - (share < 0)
        stand = stand_from(section, size, (edge % len(section), pair(share % 1)))
        return WORDS[side_of(section, stand, place)]

    def holds_stands_with(self, section, size, place, arc, tale):
        """Holds that there is a stand with a word just if the word comes."""
        for word in ("dry", "wet"):
            stand = drypoints.stand_with(section, size, place, arc, word)
            self.assertEqual(word in tale, stand is not None)
            if stand is not None:
                self.assertEqual(size, area_of_stand(section, stand))
                self.assertIs(True, is_on_arc(section, arc, stand[0]))
                self.assertEqual(word, WORDS[side_of(section, stand, place)])

    def test_rim_at_all_stands(self):
        # With half the area under water all lines of a section that is itself when turned half round have its middle.
        for section in (square, raft, hexagon):
            size, middle = pair(area([spot(corner) for corner in section]) / 2), middle_of(section)
            for arc in arcs_of(Maker(63), section):
                self.assertEqual(("rim",), drypoints.wet_tale(section, size, middle, arc))
                self.assertEqual(("rim",), drypoints.wet_words(section, size, middle, arc))
                for word in ("dry", "wet"):
                    self.assertIsNone(drypoints.stand_with(section, size, middle, arc, word))
                self.assertIs(False, drypoints.is_vented(section, size, (middle,), arc))
        # Rim along some pieces only: the lines between the left and the right edge have (1, 1 / 2), the area being 1.
        for arc, tale, changes in (
                (None, ("rim", "dry", "rim"), ((0, 0, True), (0, 0, True), (3, 3, True))),
                (((3, (1, 4)), (0, (1, 4))), ("dry", "rim", "dry"), ((3, 1, False), (3, 3, True), (0, 0, True))),
                (((3, (5, 7)), (3, (4, 7))), ("rim", "dry", "rim"), ((3, 4, False), (0, 0, True), (3, 3, True))),
                (((3, (4, 7)), (3, (5, 7))), ("rim",), ((3, 3, False),)),
                (((3, (1, 2)), (0, (0, 1))), ("rim",), ((3, 3, True),)),
                (((0, (0, 1)), (3, (1, 2))), ("rim", "dry", "rim"), ((0, 0, True), (0, 0, True), (3, 3, True)))):
            self.assertEqual(tale, drypoints.wet_tale(raft, (1, 1), (2, 1, 2), arc))
            told = [drypoints.wet_change(raft, (1, 1), (2, 1, 2), arc, k, 6) for k in range(len(tale))]
            self.assertEqual(list(changes), told)

    def test_changes_by_hand(self):
        # Of half the raft all lines go through (1, 1): the hatch is on the one through (1, 0) and (1, 2).
        self.assertEqual(("dry", "rim", "wet", "rim", "dry"), drypoints.wet_tale(raft, (2, 1), hatch, None))
        for k, told in enumerate(((0, 0, True), (0, 1, False), (0, 1, False), (2, 1, False), (2, 1, False))):
            self.assertEqual(told, drypoints.wet_change(raft, (2, 1), hatch, None, k, 3))
        # Behind a start on the rim: the first element is a single left end.
        arc = ((0, (1, 2)), (2, (1, 2)))
        self.assertEqual(("rim", "wet", "rim"), drypoints.wet_tale(raft, (2, 1), hatch, arc))
        self.assertEqual([(0, 1, True), (0, 1, True), (2, 1, True)],
                         [drypoints.wet_change(raft, (2, 1), hatch, arc, k, 2) for k in range(3)])
        # A change at a corner is told as one on the edge that begins there.
        corner, arc = (2, 2, 1), ((1, (0, 1)), (0, (1, 2)))
        self.assertEqual(("wet", "rim", "dry", "rim", "wet"), drypoints.wet_tale(raft, (2, 1), corner, arc))
        self.assertEqual([(1, 0, True), (2, 0, True), (2, 0, True), (0, 0, True), (0, 0, True)],
                         [drypoints.wet_change(raft, (2, 1), corner, arc, k, 6) for k in range(5)])
        # From corner 0 on and once round: the single left end there is told at the beginning only.
        self.assertEqual(("rim", "wet", "rim", "dry"), drypoints.wet_tale(raft, (2, 1), corner, None))
        self.assertEqual([(0, 0, True), (0, 0, True), (2, 0, True), (2, 0, True)],
                         [drypoints.wet_change(raft, (2, 1), corner, None, k, 6) for k in range(4)])
        # An arc that ends just at corner 0.
        arc = ((3, (1, 2)), (0, (0, 1)))
        self.assertEqual(("dry", "rim"), drypoints.wet_tale(raft, (2, 1), corner, arc))
        self.assertEqual((0, 0, True), drypoints.wet_change(raft, (2, 1), corner, arc, 1, 6))

    def test_changes_that_are_no_fractions(self):
        # From (2 - t, 0) to (2, 2 / t) the line has (7 / 4, 1) where t t - 2 t + 1 / 2 is 0: t = 1 + root(1 / 2).
        tale = drypoints.wet_tale(raft, (1, 1), shelf, LEFT_HALF)
        self.assertEqual(("dry", "rim", "wet"), tale)
        for many in (1, 2, 7, 10 ** 12):
            for k in (1, 2):
                edge, n, is_just = drypoints.wet_change(raft, (1, 1), shelf, LEFT_HALF, k, many)
                self.assertEqual((0, False), (edge, is_just))
                self.assertTrue(2 * (many - 2 * n) ** 2 > many ** 2 > 2 * (many - 2 * n - 2) ** 2 or many < 3)
        for share, word in ((Fraction(n, many), "dry"), (Fraction(n + 1, many), "wet")):
            self.assertEqual(word, self.word_near(raft, (1, 1), shelf, 0, share))
            self.assertEqual((word,), drypoints.wet_tale(raft, (1, 1), shelf, ((0, pair(share)), (0, pair(share)))))
        for share, tale in ((Fraction(n, many), ("dry", "rim", "wet")), (Fraction(n + 1, many), ("wet",))):
            self.assertEqual(tale, drypoints.wet_tale(raft, (1, 1), shelf, ((0, pair(share)), LEFT_HALF[1])))

    def through(self, section, place, parts=30):
        """Stands through a point inside, with left ends at many rim points and at all corners, either way round."""
        for edge in range(len(section)):
            for part in range(parts):
                x, y = rim_spot(section, (edge, (part, parts)))
                u, v = spot(place)
                c, s, _ = point(-(v - y), u - x)
                many = next(many for many in range(max(abs(c), abs(s)), 0, -1) if c % many == s % many == 0)
                for up in ((c // many, s // many), (-c // many, -s // many)):
                    yield line_through(section, up, place)

    def test_areas_below(self):
        maker = Maker(64)
        for section in ALL + (SKEW,) + tuple(maker.polygon(3 + k % 6, 4, 2) for k in range(8)):
            whole = area([spot(corner) for corner in section])
            for place in (middle_of(section), maker.inner_point(section, 4)):
                if not is_inside(section, place):
                    continue
                least, low = drypoints.least_below(section, place)
                greatest, high = drypoints.greatest_below(section, place)
                self.assertEqual(whole, number(least) + number(greatest))
                for size, stand in ((least, low), (greatest, high)):
                    self.assertEqual(size, area_of_stand(section, stand))
                    self.assertEqual(0, side_of(section, stand, place))
                    self.holds_halved(section, stand, place)
                for stand in self.through(section, place, 12):
                    size = number(area_of_stand(section, stand))
                    self.assertTrue(number(least) <= size <= number(greatest))
                    for told, first in ((least, low), (greatest, high)):
                        if size == number(told):
                            self.assertLessEqual((first[0][0], number(first[0][1])), (stand[0][0], number(stand[0][1])))

    def holds_halved(self, section, stand, place):
        """Holds that the point halves the water line."""
        left, right = rim_spot(section, stand[0]), rim_spot(section, stand[1])
        self.assertEqual(spot(place), ((left[0] + right[0]) / 2, (left[1] + right[1]) / 2))

    def test_areas_below_by_hand(self):
        self.assertEqual(((1, 1), ((1, (1, 2)), (3, (0, 1)))), drypoints.least_below(raft, hatch))
        self.assertEqual(((3, 1), ((3, (0, 1)), (1, (1, 2)))), drypoints.greatest_below(raft, hatch))
        # All lines through the middle halve the raft: the first one has its left end at corner 0.
        for function in (drypoints.least_below, drypoints.greatest_below):
            self.assertEqual(((2, 1), ((0, (0, 1)), (2, (0, 1)))), function(raft, (1, 1, 1)))
        # Near corner 1 the least triangle is halved by the point; its left end is on edge 0.
        self.assertEqual(((1, 2), ((0, (1, 2)), (1, (1, 2)))), drypoints.least_below(raft, (3, 1, 2)))
        self.assertEqual(((7, 2), ((1, (1, 2)), (0, (1, 2)))), drypoints.greatest_below(raft, (3, 1, 2)))
        # Two stretches of lines between parallel edges meet in one with corners at both ends.
        self.assertEqual(((1, 1), ((0, (1, 2)), (2, (0, 1)))), drypoints.least_below(raft, (3, 2, 2)))
        self.assertEqual(((3, 1), ((2, (0, 1)), (0, (1, 2)))), drypoints.greatest_below(raft, (3, 2, 2)))
        # The middle of a triangle: 4 / 9 of it, three times.
        self.assertEqual(((2, 9), ((0, (1, 3)), (1, (2, 3)))), drypoints.least_below(half, (1, 1, 3)))
        self.assertEqual(((5, 18), ((0, (2, 3)), (2, (1, 3)))), drypoints.greatest_below(half, (1, 1, 3)))

    def test_some_heel(self):
        # [40]: dry, rim and wet come at some heel as the log's area is beside the least and the greatest area below.
        for maker, section, size, place, arc in self.cases(65, 80):
            if not is_inside(section, place):
                continue
            least, greatest = drypoints.least_below(section, place)[0], drypoints.greatest_below(section, place)[0]
            whole = number(least) + number(greatest)
            for told in {number(size), number(least), number(greatest), number(least) * (1 - Fraction(1, 10 ** 20)),
                         whole - number(least) * (1 - Fraction(1, 10 ** 20)), whole / 2}:
                expected = {"dry": number(greatest) > told, "rim": number(least) <= told <= number(greatest),
                            "wet": number(least) < told}
                self.assertEqual(tuple(word for word in ORDER if expected[word]),
                                 drypoints.wet_words(section, pair(told), place, None))

    def test_venting(self):
        seen = set()
        for maker, section, size, place, arc in self.cases(66, 160):
            many = maker.random.randint(1, 8)
            points = tuple(maker.random.choice(points_of(maker, section)) for _ in range(many))
            told = drypoints.is_vented(section, size, points, arc)
            sampled = True
            for left in lefts_on(section, size, arc, 6):
                stand = stand_from(section, size, left)
                sampled = sampled and any(side_of(section, stand, each) > 0 for each in points)
            if told or len(points) == 1:
                tales = [drypoints.wet_tale(section, size, each, arc) for each in points]
                self.assertTrue(sampled if told else any(word != "dry" for word in tales[0]))
            if sampled and not told:
                lefts = lefts_on(section, size, arc, 200)
                gap = any(all(side_of(section, stand_from(section, size, left), each) <= 0 for each in points)
                          for left in lefts)
                self.assertTrue(gap or any("rim" in drypoints.wet_words(section, size, each, arc) for each in points))
            self.assertIs(told, drypoints.is_vented(section, size, points[::-1], arc))
            seen.add((told, arc is None))
        self.assertEqual(4, len(seen))

    def test_venting_by_hand(self):
        over, under, left, right = hatch, (2, 1, 2), (1, 3, 2), (3, 3, 2)
        self.assertIs(False, drypoints.is_vented(raft, (2, 1), (over, under), None))
        self.assertIs(True, drypoints.is_vented(raft, (2, 1), (left, right, under), None))
        # Both hatches are on the rim at one stand alone, with its left end at the half of edge 0 or 2.
        near = Fraction(1, 10 ** 60)
        self.assertIs(False, drypoints.is_vented(raft, (2, 1), (over, under), ((0, (1, 3)), (0, (2, 3)))))
        self.assertIs(False, drypoints.is_vented(raft, (2, 1), (over, under), ((0, (1, 2)), (0, (1, 2)))))
        self.assertIs(True, drypoints.is_vented(raft, (2, 1), (over, under), ((0, pair(Fraction(1, 2) + near)),
                                                                              (2, pair(Fraction(1, 2) - near)))))
        # A third one helps at this stand, if it is not on this line, too; one outside does as well.
        for third, told in (((1, 1, 1), False), ((1, 9, 1), False), ((0, 1, 1), True), ((-7, 1, 1), True)):
            self.assertIs(told, drypoints.is_vented(raft, (2, 1), (over, under, third), ((0, (1, 3)), (0, (2, 3)))))
        self.assertIs(True, drypoints.is_vented(raft, (1, 1), ((1, 1, 1),), None))
        self.assertIs(True, drypoints.is_vented(raft, (1, 1), ((1, 1, 1),) * 8, None))
        self.assertIs(False, drypoints.is_vented(raft, (1, 1), ((2, 1, 2),), None))
        self.assertIs(True, drypoints.is_vented(raft, (1, 1), ((2, 1, 2), (1, 1, 1)), None))
        self.assertIs(False, drypoints.is_vented(raft, (2, 1), ((1, 1, 1),) * 3, None))

    def test_venting_by_turns(self):
        # The shelf comes under water at a left end that is no fraction; the other point, on the left half of a line a
        # little before or behind, comes out of it there.
        many = 10 ** 12
        edge, n, is_just = drypoints.wet_change(raft, (1, 1), shelf, LEFT_HALF, 1, many)
        for share, told in ((n, True), (n + 1, False)):
            stand = stand_from(raft, (1, 1), (0, pair(Fraction(share, many))))
            other = between(*ends_of(raft, stand), (1, 4))
            self.assertEqual(("wet", "rim", "dry"), drypoints.wet_tale(raft, (1, 1), other, LEFT_HALF))
            self.assertIs(told, drypoints.is_vented(raft, (1, 1), (shelf, other), LEFT_HALF))
            self.assertIs(told, drypoints.is_vented(raft, (1, 1), (other, (9, 0, 1), shelf), LEFT_HALF))
            self.assertIs(False, drypoints.is_vented(raft, (1, 1), (shelf,), LEFT_HALF))
            self.assertIs(False, drypoints.is_vented(raft, (1, 1), (other,), LEFT_HALF))

    def test_great_numbers(self):
        great = 10 ** 140 + 33
        section = tuple((x * great, y * great, 1) for x, y, w in raft)
        place = (2 * great, 3 * great, 2)
        self.assertEqual(((great ** 2, 1), ((1, (1, 2)), (3, (0, 1)))), drypoints.least_below(section, place))
        self.assertEqual(("dry", "rim", "wet", "rim", "dry"),
                         drypoints.wet_tale(section, (2 * great ** 2, 1), place, None))
        self.assertEqual((0, 5, True), drypoints.wet_change(section, (2 * great ** 2, 1), place, None, 1, 10))
        beside = point(great, Fraction(3 * great, 2) + Fraction(1, great))
        self.assertIs(False, drypoints.is_vented(section, (2 * great ** 2, 1), (place, beside), None))
        least, stand = drypoints.least_below(section, beside)
        self.assertEqual((great ** 2 - 2, 1), least)
        self.assertEqual(0, side_of(section, stand, beside))

    def test_arguments(self):
        check_arguments(self, drypoints.wetness, {"section": raft, "stand": flat, "point": hatch},
                        {"section": SECTION, "stand": (InvalidStand, wrong.stands(raft)), "point": POINT})
        for function in (drypoints.least_below, drypoints.greatest_below):
            check_arguments(self, function, {"section": raft, "point": hatch}, {"section": SECTION, "point": POINT})
        for arc in (None, span, (span[1], span[0]), (span[0], span[0])):
            right = {"section": raft, "area": (2, 1), "point": hatch, "arc": arc}
            bad = {"section": SECTION, "area": AREA, "point": POINT, "arc": ARC}
            check_arguments(self, drypoints.wet_words, right, bad)
            check_arguments(self, drypoints.wet_tale, right, bad)
            for word in ("dry", "wet"):
                check_arguments(self, drypoints.stand_with, {**right, "word": word},
                                {**bad, "word": (InvalidWord, NO_WORDS)})
            right = {"section": raft, "area": (2, 1), "points": (hatch,), "arc": arc}
            check_arguments(self, drypoints.is_vented, right, {"section": SECTION, "area": AREA, "arc": ARC})
        check_arguments(self, drypoints.wet_change,
                        {"section": raft, "area": (2, 1), "point": hatch, "arc": None, "index": 4, "many": 10 ** 12},
                        {"section": SECTION, "area": AREA, "point": POINT, "arc": ARC,
                         "index": (InvalidIndex, wrong.indexes(5)), "many": (InvalidNumber, wrong.MANY)})
        check_arguments(self, drypoints.wet_change,
                        {"section": raft, "area": (2, 1), "point": hatch, "arc": span, "index": 0, "many": 1},
                        {"index": (InvalidIndex, wrong.indexes(1)), "many": (InvalidNumber, wrong.MANY)})

    def test_points_as_arguments(self):
        vented = drypoints.is_vented
        for bad in wrong.JUNK + (None, [], (), [hatch], 5):
            index = 0 if isinstance(bad, tuple) and bad else None
            raised(self, InvalidPoints, {"index": index}, vented, raft, (2, 1), bad, None)
            raised(self, InvalidPoints, {"index": index}, vented, raft, (2, 1), bad, 5)
            raised(self, InvalidArea, {"given": (4, 1)}, vented, raft, (4, 1), bad, 5)
        raised(self, InvalidPoints, {"index": 8}, vented, raft, (2, 1), NINE, None)
        raised(self, InvalidPoints, {"index": 8}, vented, raft, (2, 1), NINE[:8] + (None, None), None)
        for bad in wrong.POINTS:
            raised(self, InvalidPoints, {"index": 3}, vented, raft, (2, 1), NINE[:3] + (bad,) + NINE, None)
            raised(self, InvalidPoints, {"index": 0}, vented, arc=5, points=(bad, bad), area=(2, 1), section=raft)
            raised(self, InvalidPoints, {"index": 7}, vented, raft, (2, 1), NINE[:7] + (bad,), ())
        raised(self, InvalidArc, {"given": ()}, vented, raft, (2, 1), NINE[:8], ())

    def test_what_is_told_last(self):
        tiny = 10 ** 40
        for off in ((0, 0, 1), (1, 0, 1), (2, 1, 1), (-1, 1, 1), (1, 3, 1), (2 * tiny + 1, tiny, tiny),
                    (-1, tiny, tiny)):
            for function in (drypoints.least_below, drypoints.greatest_below):
                raised(self, NotInside, {"given": off}, function, raft, off)
                raised(self, NotInside, {"given": off}, function, point=off, section=raft)
                raised(self, InvalidSection, {"given": raft[:2]}, function, raft[:2], off)
        near = drypoints.least_below(raft, (1, 1, tiny))
        self.assertEqual((pair(Fraction(2, tiny ** 2)), ((3, (tiny - 1, tiny)), (0, (1, tiny)))), near)


if __name__ == "__main__":
    unittest.main()
