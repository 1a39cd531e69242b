"""Rests: their kinds, their places, and where a log comes to."""

import unittest
from fractions import Fraction

from hullrests import rests
from hullrests.errors import InvalidIndex, InvalidLog, InvalidNumber, InvalidStand, NotFirm, WrongArea
from hullrests.metacentres import ballast_for, firmness, metacentre
from hullrests.points import minus, plus, quarter, times
from hullrests.righting import righting_tale
from hullrests.sections import grown, mirrored, moved, turned
from hullrests.stands import corner_stands, is_on_arc, stand_from
from tests import reckoning, wrong
from tests.reckoning import Maker, number, pair, sign
from tests.shapes import ALL, EVEN, LEVEL, beam, deep, half, raft, square, wedge
from tests.wrong import check_arguments, raised

FINE = 10 ** 9
SIDES = {(-1, 1): "firm", (1, -1): "tipping", (1, 1): "sliding", (-1, -1): "sliding"}
# On edge 3 its lever is (u + 1) (2 u - 1) (2 u - 1) / 12, with u from -1 to 1 and the share (1 + u) / 2.
SLIDE = (raft, (2, 1), (23, 23, 24))
ONE_FIRM = (square, (1, 2), (45, 41, 81))
TWO = (raft, (2, 1), (1, 0, 1))


def stand_of(log, edge, share):
    """The log's stand with a left end on an edge, the share from 0 up to 1 or a little beyond."""
    section, area, ballast = log
    share = Fraction(share)
    edge = edge + (share >= 1) - (share < 0)
    return stand_from(section, area, (edge % len(section), pair(share % 1)))


def lever(log, stand):
    """The lever, by triangles."""
    return reckoning.lever(log[0], log[2], stand)


class RestsTest(unittest.TestCase):
    def logs(self, many=25):
        maker = Maker(11)
        for section in ALL + tuple(maker.polygon(3 + k % 6) for k in range(many)):
            for ballast in (maker.inner_point(section), maker.point()):
                yield section, maker.area(section), ballast
        for section in EVEN:
            yield section, pair(reckoning.area([reckoning.spot(each) for each in section]) / 2), section[0]

    def test_all_round(self):
        for log in self.logs():
            kinds = rests.rests(log)
            self.holds_by_turns(log, kinds)
            for index, kind in enumerate(kinds):
                edge, n, is_just = rests.near(log, index, FINE)
                here, there = stand_of(log, edge, Fraction(n, FINE)), stand_of(log, edge, Fraction(n + 1, FINE))
                before, behind = sign(lever(log, here)), sign(lever(log, there))
                if is_just:
                    self.assertEqual(0, before)
                    self.assertEqual((index, kind, index), self.told_at(log, here))
                    here = stand_of(log, edge, Fraction(n, FINE) - Fraction(1, 10 ** 12))
                    before = sign(lever(log, here))
                self.assertNotEqual(0, before * behind)
                self.assertEqual(SIDES[before, behind], kind)
                # The stands just beside it lie between this rest and the next ones.
                came = index if before < 0 else (index - 1) % len(kinds)
                self.assertEqual((None, None, came), self.told_at(log, here))
                came = index if behind > 0 else (index + 1) % len(kinds)
                self.assertEqual((None, None, came), self.told_at(log, there))

    def told_at(self, log, stand):
        """What is told of a stand."""
        return rests.rest_at(log, stand), rests.kind_of(log, stand), rests.comes_to(log, stand)

    def holds_by_turns(self, log, kinds):
        """Holds that firm and tipping rests come by turns, and what follows from the kinds alone."""
        turns = [kind for kind in kinds if kind != "sliding"]
        self.assertGreater(len(turns), 1)
        self.assertTrue(all(kind != turns[k - 1] for k, kind in enumerate(turns)))
        self.assertEqual(righting_tale(log).count("rest"), len(kinds))
        self.assertIs(turns.count("firm") == 1 and "sliding" not in kinds, rests.has_one_pose(log))
        for index, kind in enumerate(kinds):
            if kind == "firm":
                many = len(kinds)
                self.assertEqual(((index - 1) % many, (index + 1) % many), rests.hold(log, index))
            else:
                raised(self, NotFirm, {"given": index}, rests.hold, log, index)

    def test_no_rest_is_left_out(self):
        # Between two rests that follow one another the word stays, at many stands.
        for log in list(self.logs(4))[::2]:
            section, area, ballast = log
            kinds = rests.rests(log)
            places = [rests.near(log, index, FINE) for index in range(len(kinds))]
            marks = [edge * FINE + n for edge, n, is_just in places]
            self.assertEqual(sorted(marks), marks)
            signs = []
            for step in range(16 * len(section)):
                stand = stand_of(log, step // 16, Fraction(step % 16, 16))
                passed = sum(Fraction(mark, FINE) < Fraction(step, 16) for mark in marks)
                if rests.rest_at(log, stand) is None:
                    signs.append((passed % len(marks), sign(lever(log, stand))))
                    came = passed - 1 if signs[-1][1] > 0 else passed
                    self.assertEqual(came % len(marks), rests.comes_to(log, stand))
                else:
                    self.assertEqual(0, lever(log, stand))
            self.assertEqual(len(set(signs)), len({passed for passed, side in signs}))

    def test_by_hand(self):
        self.assertEqual(("firm", "tipping") * 4, rests.rests(beam))
        for index in range(8):
            self.assertEqual((index // 2, index % 2, True), rests.near(beam, index, 2))
            self.assertEqual((index // 2, 5 * (index % 2), True), rests.near(beam, index, 10))
            self.assertEqual((index // 2, index % 2, index % 2 == 0), rests.near(beam, index, 3))
        # The rest at root(3 / 4) of edge 0, and the triple one at the half of edge 2.
        many = 10 ** 12
        edge, n, is_just = rests.near(wedge, 1, many)
        self.assertEqual((0, False), (edge, is_just))
        self.assertTrue(4 * n * n < 3 * many * many < 4 * (n + 1) ** 2)
        self.assertEqual((2, many // 2, True), rests.near(wedge, 3, many))
        self.assertEqual((2, 0, False), rests.near(wedge, 3, 1))
        self.assertEqual(("firm", "tipping"), tuple(sorted(rests.rests(deep))))
        self.assertIs(True, rests.has_one_pose(deep))
        self.assertIs(False, rests.has_one_pose(beam))

    def test_rest_at_corner_0_is_the_first(self):
        for section in ALL:
            for share in (Fraction(1, 2), Fraction(1, 5), Fraction(9, 10)):
                area = pair(share * reckoning.area([reckoning.spot(each) for each in section]))
                stand = stand_from(section, area, (0, (0, 1)))
                for firm in ((1, 3), (-1, 3), (50, 1), (-50, 1)):
                    log = (section, area, ballast_for(section, stand, firm))
                    kinds = rests.rests(log)
                    self.assertEqual((0, "firm" if firm[0] > 0 else "tipping", 0), self.told_at(log, stand))
                    self.assertEqual("rest", righting_tale(log)[0])
                    self.assertEqual((0, 0, True), rests.near(log, 0, 7))
                    self.assertNotIn((0, 0, True), [rests.near(log, k, 7) for k in range(1, len(kinds))])

    def test_rests_at_the_ends_of_pieces_count_once(self):
        for section in ALL:
            area = pair(Fraction(2, 5) * reckoning.area([reckoning.spot(each) for each in section]))
            for stand in corner_stands(section, area):
                for firm in ((2, 3), (-2, 3)):
                    log = (section, area, ballast_for(section, stand, firm))
                    kinds = rests.rests(log)
                    self.holds_by_turns(log, kinds)
                    index = rests.rest_at(log, stand)
                    self.assertEqual("firm" if firm[0] > 0 else "tipping", kinds[index])
                    (edge, (n, m)), many = stand[0], stand[0][1][1]
                    self.assertEqual((edge, n, True), rests.near(log, index, many))
                    marks = [rests.near(log, k, many) for k in range(len(kinds))]
                    self.assertEqual(1, marks.count((edge, n, True)))

    def test_ballast_at_a_metacentre(self):
        maker, seen = Maker(12), []
        for section in ALL + tuple(maker.polygon(3 + k % 6) for k in range(12)):
            area = maker.area(section)
            for stand in corner_stands(section, area)[:2] + (stand_from(section, area, maker.rim(section)),):
                log = (section, area, metacentre(section, stand))
                self.assertEqual((0, 1), firmness(section, log[2], stand))
                edge, share = stand[0]
                step = Fraction(1, 10 ** 6)
                beside = [stand_of(log, edge, number(share) + way) for way in (-step, step)]
                kind = SIDES[tuple(sign(lever(log, each)) for each in beside)]
                self.assertEqual(kind, rests.kind_of(log, stand))
                self.holds_by_turns(log, rests.rests(log))
                index = rests.rest_at(log, stand)
                self.assertEqual(kind, rests.rests(log)[index])
                seen.append(kind)
        self.assertEqual({"firm", "tipping", "sliding"}, set(seen) | {rests.kind_of((raft, (2, 1), (6, 5, 6)), LEVEL)})
        self.assertIn("sliding", seen)

    def test_sliding_rests(self):
        kinds = rests.rests(SLIDE)
        self.assertEqual(("tipping", "firm", "tipping", "sliding", "firm", "sliding"), kinds)
        self.assertEqual((3, 3, True), rests.near(SLIDE, 5, 4))
        self.assertEqual((3, 0, True), rests.near(SLIDE, 4, 4))
        at = stand_of(SLIDE, 3, Fraction(3, 4))
        self.assertEqual((5, "sliding", 5), self.told_at(SLIDE, at))
        # It is `left` on both sides: from behind the log comes onto the sliding one and stays, from before it goes on.
        for step in (Fraction(1, 100), Fraction(1, 10 ** 100)):
            self.assertEqual((None, None, 5), self.told_at(SLIDE, stand_of(SLIDE, 3, Fraction(3, 4) + step)))
            self.assertEqual((None, None, 4), self.told_at(SLIDE, stand_of(SLIDE, 3, Fraction(3, 4) - step)))
        self.assertEqual((3, 5), rests.hold(SLIDE, 4))
        raised(self, NotFirm, {"given": 5}, rests.hold, SLIDE, 5)
        self.assertIs(False, rests.has_one_pose(SLIDE))
        self.assertEqual(("sliding", "firm", "tipping"), rests.rests(ONE_FIRM))
        self.assertIs(False, rests.has_one_pose(ONE_FIRM))
        self.assertEqual((0, 1, True), rests.near(ONE_FIRM, 0, 3))
        self.assertEqual((0, 2), rests.hold(ONE_FIRM, 1))

    def test_metacentre_a_little_beside(self):
        # The triple root of (6, 5, 6) at `flat` falls apart into three, two of them firm or none.
        for many in (10, 10 ** 20, 10 ** 200):
            over, under = (6, 5, 6), (6, 5, 6)
            over = plus(over, (0, 1, many))
            under = minus(under, (0, 1, many))
            self.assertEqual("tipping", rests.kind_of((raft, (2, 1), over), LEVEL))
            self.assertEqual("firm", rests.kind_of((raft, (2, 1), under), LEVEL))
            self.assertEqual(2, len(rests.rests((raft, (2, 1), over))) - len(rests.rests((raft, (2, 1), under))))

    def test_let_go_round_the_beginning(self):
        # wedge ends with `left`: before its first rest it goes clockwise over corner 0 to the last one.
        self.assertEqual(3, rests.comes_to(wedge, stand_from(half, (1, 8), (0, (0, 1)))))
        self.assertEqual(3, rests.comes_to(wedge, stand_from(half, (1, 8), (0, (1, 3)))))
        self.assertEqual(3, rests.comes_to(wedge, stand_from(half, (1, 8), (2, (9, 10)))))
        # With its mirror image it goes counterclockwise over corner 0 from behind the last one.
        log = (mirrored(half), (1, 8), (-1, 1, 3))
        kinds = rests.rests(log)
        self.assertEqual(tuple(sorted(rests.rests(wedge))), tuple(sorted(kinds)))
        edge, n, is_just = rests.near(log, len(kinds) - 1, 1000)
        behind = stand_of(log, edge, Fraction(n + 1, 1000))
        self.assertEqual("tipping", kinds[-1])
        self.assertEqual(0, rests.comes_to(log, behind))

    def test_two_rests_in_all(self):
        self.assertEqual(("tipping", "firm"), rests.rests(TWO))
        self.assertEqual((0, 0), rests.hold(TWO, 1))
        raised(self, NotFirm, {"given": 0}, rests.hold, TWO, 0)
        self.assertIs(True, rests.has_one_pose(TWO))
        for edge in range(4):
            for share in (0, Fraction(1, 3), Fraction(2, 3)):
                self.assertEqual(1, rests.comes_to(TWO, stand_of(TWO, edge, share)))
        self.assertEqual(0, rests.comes_to(TWO, stand_of(TWO, 1, Fraction(1, 2))))

    def test_turned_moved_grown_and_mirrored(self):
        way = (10 ** 60, -3, 7)
        for section, area, ballast in self.logs(6):
            log = (section, area, ballast)
            kinds = rests.rests(log)
            there = (moved(section, way), area, plus(ballast, way))
            self.assertEqual(kinds, rests.rests(there))
            self.assertEqual([rests.near(log, k, 1000) for k in range(len(kinds))],
                             [rests.near(there, k, 1000) for k in range(len(kinds))])
            square_of = pair(number(area) * Fraction(9, 10 ** 50))
            self.assertEqual(kinds, rests.rests((grown(section, (3, 10 ** 25)), square_of, times(ballast, (3, 10 ** 25)))))
            self.assertIn(rests.rests((turned(section), area, quarter(ballast))), self.rounds(kinds))
            x, y, w = ballast
            self.assertIn(rests.rests((mirrored(section), area, (-x, y, w)))[::-1], self.rounds(kinds))

    def rounds(self, kinds):
        """The same kinds, beginning at each of them."""
        return [kinds[k:] + kinds[:k] for k in range(len(kinds))]

    def test_great_numbers(self):
        great = 10 ** 399 + 9
        section = ((0, 0, 1), (great, 0, 1), (great, great // 2, 1), (0, great, 1))
        for area in (pair(Fraction(great * great, 7)), pair(Fraction(great * great, 2))):
            log = (section, area, (great, great + 1, 3))
            kinds = rests.rests(log)
            self.holds_by_turns(log, kinds)
            for index, kind in enumerate(kinds):
                edge, n, is_just = rests.near(log, index, 10 ** 12)
                before = lever(log, stand_of(log, edge, Fraction(n, 10 ** 12)))
                behind = lever(log, stand_of(log, edge, Fraction(n + 1, 10 ** 12)))
                self.assertEqual(SIDES[sign(before), sign(behind)], kind)

    def test_equal_calls(self):
        for log in (wedge, SLIDE):
            self.assertEqual(rests.rests(log), rests.rests(tuple(log)))
            self.assertEqual(rests.near(log, 1, 9), rests.near(log, 1, 9))

    def test_arguments(self):
        log = (InvalidLog, wrong.logs(wedge))
        stand = stand_from(half, (1, 8), (0, (1, 3)))
        both = {"log": log, "stand": (InvalidStand, wrong.stands(half))}
        for function in (rests.rest_at, rests.kind_of, rests.comes_to):
            check_arguments(self, function, {"log": wedge, "stand": stand}, both)
        for function in (rests.rests, rests.has_one_pose):
            check_arguments(self, function, {"log": wedge}, {"log": log})
        index = (InvalidIndex, wrong.indexes(4))
        check_arguments(self, rests.near, {"log": wedge, "index": 3, "many": 10 ** 12},
                        {"log": log, "index": index, "many": (InvalidNumber, wrong.MANY)})
        check_arguments(self, rests.near, {"log": wedge, "index": 0, "many": 1}, {})
        check_arguments(self, rests.hold, {"log": wedge, "index": 1}, {"log": log, "index": index})

    def test_what_is_told_last(self):
        for function in (rests.rest_at, rests.kind_of, rests.comes_to):
            for area in ((1, 9), (1, 3), (125 * 10 ** 30 + 1, 10 ** 33)):
                other = stand_from(half, area, (0, (1, 3)))
                raised(self, WrongArea, {"given": area}, function, wedge, other)
                raised(self, WrongArea, {"given": area}, function, stand=other, log=wedge)
                raised(self, InvalidLog, {"given": None}, function, None, other)
                raised(self, InvalidStand, {"given": list(other)}, function, wedge, list(other))
        for index in (0, 2):
            raised(self, NotFirm, {"given": index}, rests.hold, wedge, index)
            raised(self, NotFirm, {"given": index}, rests.hold, index=index, log=wedge)
        raised(self, InvalidIndex, {"given": 4}, rests.near, wedge, 4, 0)
        raised(self, InvalidIndex, {"given": True}, rests.hold, wedge, True)

    def test_holds(self):
        # What is let go between the rests just before and just behind a firm one comes to it.
        for log in (wedge, beam, SLIDE, ONE_FIRM):
            kinds = rests.rests(log)
            for index in [k for k, kind in enumerate(kinds) if kind == "firm"]:
                first, last = rests.hold(log, index)
                ends = [rests.near(log, k, FINE) for k in (first, last)]
                arc = tuple((edge, pair(Fraction(n, FINE))) for edge, n, is_just in ends)
                arc = (stand_of(log, arc[0][0], number(arc[0][1]) + Fraction(1, FINE))[0], arc[1])
                for step in range(24 * len(log[0])):
                    stand = stand_of(log, step // 24, Fraction(step % 24, 24) + Fraction(1, 1000))
                    if is_on_arc(log[0], arc, stand[0]):
                        self.assertEqual(index, rests.comes_to(log, stand))


if __name__ == "__main__":
    unittest.main()
