"""Lots: what all ballast of a polygon does at a stand and on an arc."""

import unittest
from fractions import Fraction

from hullrests import lots
from hullrests.cuts import area_of_stand
from hullrests.errors import InvalidArc, InvalidArea, InvalidPolygon, InvalidSection, InvalidStand, InvalidWord
from hullrests.metacentres import ballast_for, ballast_line, metacentre
from hullrests.points import between
from hullrests.rests import near, rests
from hullrests.sections import is_polygon, polygon_of
from hullrests.stands import is_on_arc, pieces, stand_from, stretches
from tests import reckoning, wrong
from tests.reckoning import Maker, number, pair, point, spot, way, within, word
from tests.shapes import ALL, deck, flat, half, hub, keel, raft, side, span, square
from tests.wrong import check_arguments

WORDS = ("left", "rest", "right")
DEEP_AREA = (2, 1)
ABOUT_ROOT = ((0, (4, 5)), (0, (9, 10)))
BEYOND_ROOT = ((0, (7, 8)), (0, (9, 10)))
BEFORE_ROOT = ((0, (4, 5)), (0, (43, 50)))
SECTION = (InvalidSection, wrong.SECTIONS)
AREA = (InvalidArea, wrong.areas(raft, (4, 1)))
LOT = (InvalidPolygon, wrong.POLYGONS)
ARC = (InvalidArc, wrong.arcs(raft))
WORD = (InvalidWord, wrong.WORDS)


def words_of(arms):
    """The words that come with levers of corners."""
    found = {word(arm) for arm in arms}
    if {"left", "right"} <= found:
        found.add("rest")
    return tuple(each for each in WORDS if each in found)


def stands_on(section, area, arc, parts):
    """Some stands of an arc, on each piece and at its ends."""
    told = pieces(section, area)
    for index, low, high in stretches(section, area, arc):
        edge = told[index][0]
        for part in range(parts + 1):
            share = number(low) + Fraction(part, parts) * (number(high) - number(low))
            left = (edge, pair(share)) if share < 1 else ((edge + 1) % len(section), (0, 1))
            yield stand_from(section, area, left)


def arcs_of(maker, section):
    """Arcs of each kind: all, one rim point, within an edge, over several, past corner 0, nearly once round."""
    edge, last = maker.random.randrange(len(section)), len(section) - 1
    return (None, ((edge, (1, 3)), (edge, (1, 3))), ((edge, (0, 1)), (edge, (0, 1))), ((edge, (1, 5)), (edge, (1, 2))),
            ((0, (1, 2)), (2, (1, 3))), ((last, (1, 4)), (1, (1, 2))), ((edge, (1, 2)), (edge, (2, 5))),
            (maker.rim(section, 2), maker.rim(section)))


def lots_of(maker, section, area):
    """Lots with one corner, two and more; some with a metacentre at a corner, on a side, within."""
    m = metacentre(section, stand_from(section, area, maker.rim(section, 4)))
    around = tuple(maker.inner_point(section) for _ in range(4))
    x, y = spot(m)
    beside = [point(x + u, y + v) for u, v in ((2, 1), (-2, 1), (0, -3))]
    return ((around[0],), polygon_of(around[:2]), polygon_of(around), maker.polygon(maker.random.randint(3, 6)),
            (m,), polygon_of((m, around[0])), polygon_of((m,) + around[1:]), polygon_of(tuple(beside)),
            polygon_of((beside[0], between(beside[0], m, (2, 1)), around[2])), section)


class LotsTest(unittest.TestCase):
    def cases(self, seed, many):
        maker = Maker(seed)
        for k in range(many):
            section = ALL[k % len(ALL)] if k % 2 == 0 else maker.polygon(3 + k % 6)
            area = maker.area(section)
            lot = maker.random.choice(lots_of(maker, section, area))
            arc = arcs_of(maker, section)[k % 8]
            yield maker, section, area, lot, arc

    def test_words(self):
        for maker, section, area, lot, arc in self.cases(21, 90):
            came = set()
            for stand in stands_on(section, area, arc, 4):
                told = words_of([reckoning.lever(section, corner, stand) for corner in lot])
                self.assertEqual(told, lots.words_at(section, stand, lot))
                came |= set(told)
            told = lots.words_on(section, area, lot, arc)
            self.assertLessEqual(came, set(told))
            self.assertEqual([each for each in WORDS if each in told], list(told))
            for turn in ("left", "right"):
                found = lots.turned_at(section, area, lot, arc, turn)
                self.assertEqual(turn in told, found is not None)
                if found is not None:
                    stand, corner = found
                    self.assertIn(corner, lot)
                    self.assertEqual(area, area_of_stand(section, stand))
                    self.assertIs(True, is_on_arc(section, arc, stand[0]))
                    self.assertEqual(turn, word(reckoning.lever(section, corner, stand)))
            if "left" in told and "right" in told:
                self.assertIn("rest", told)

    def test_words_by_hand(self):
        one = ((3, (1, 2)), (3, (1, 2)))
        # `rest` comes between the corners of deck only.
        self.assertEqual(WORDS, lots.words_at(raft, flat, deck))
        self.assertEqual(WORDS, lots.words_on(raft, DEEP_AREA, deck, one))
        self.assertEqual(("rest",), lots.words_at(raft, flat, hub))
        self.assertEqual(("rest",), lots.words_on(raft, DEEP_AREA, hub, one))
        self.assertEqual(("left",), lots.words_at(raft, flat, ((0, 0, 1),)))
        self.assertEqual(("right",), lots.words_at(raft, flat, ((3, 0, 1),)))
        self.assertEqual(("left", "rest"), lots.words_at(raft, flat, ((0, 0, 1), (1, 0, 1))))
        self.assertEqual(("rest", "right"), lots.words_at(raft, flat, ((1, 0, 1), (2, 0, 1), (2, 1, 1))))
        self.assertEqual(WORDS, lots.words_on(raft, DEEP_AREA, hub, None))
        # The lever with (1, g) is u (5 / 3 - 2 g + u u / 3): with g = 5 / 6 it is 0 at u = 0 alone.
        low = ((6, 5, 6),)
        self.assertEqual(("left", "rest"), lots.words_on(raft, DEEP_AREA, low, ((3, (1, 2)), (3, (3, 4)))))
        self.assertEqual(("left",), lots.words_on(raft, DEEP_AREA, low, ((3, (501, 1000)), (3, (3, 4)))))
        self.assertEqual(("rest", "right"), lots.words_on(raft, DEEP_AREA, low, ((3, (1, 4)), (3, (1, 2)))))
        # A word that comes at the stands of a short stretch only, whose ends are no fractions: u (u u - 1 / 10 ** 40).
        tiny = point(1, Fraction(5, 6) + Fraction(1, 6 * 10 ** 40))
        self.assertIsNone(lots.turned_at(raft, DEEP_AREA, low, ((3, (1, 2)), (3, (3, 4))), "right"))
        stand, corner = lots.turned_at(raft, DEEP_AREA, (tiny,), ((3, (1, 2)), (3, (3, 4))), "right")
        self.assertEqual("right", word(reckoning.lever(raft, corner, stand)))
        self.assertGreater(Fraction(1, 10 ** 19), number(stand[0][1]) - Fraction(1, 2))

    def test_traps(self):
        for maker, section, area, lot, arc in self.cases(22, 80):
            told = lots.is_trap(section, area, lot, arc)
            if arc is None:
                self.assertIs(True, told)
                continue
            ends = [lots.words_at(section, stand_from(section, area, rim), lot) for rim in arc]
            self.assertIs("left" not in ends[0] and "right" not in ends[1], told)
            if told:
                # Each single ballast has a rest on the arc.
                for ballast in lot[:2]:
                    self.assertTrue("rest" in lots.words_on(section, area, (ballast,), arc))

    def test_traps_by_hand(self):
        self.assertIs(True, lots.is_trap(raft, DEEP_AREA, keel, span))
        self.assertIs(False, lots.is_trap(raft, DEEP_AREA, hub, span))
        self.assertIs(True, lots.is_trap(raft, DEEP_AREA, raft, None))
        # Just a trap: the lever at an end is 0, not beyond.
        half_span = ((3, (1, 2)), (3, (3, 4)))
        self.assertIs(True, lots.is_trap(raft, DEEP_AREA, ((6, 5, 6),), half_span))
        self.assertIs(True, lots.is_trap(raft, DEEP_AREA, ((1, 0, 1), (6, 5, 6)), half_span))
        self.assertIs(False, lots.is_trap(raft, DEEP_AREA, ((0, 0, 1), (6, 5, 6)), half_span))
        beside = point(1 - Fraction(1, 10 ** 50), Fraction(5, 6))
        self.assertIs(False, lots.is_trap(raft, DEEP_AREA, (beside,), half_span))
        self.assertIs(True, lots.is_trap(raft, DEEP_AREA, ((6, 5, 6),), ((3, (1, 4)), (3, (1, 2)))))
        one = ((3, (1, 2)), (3, (1, 2)))
        self.assertIs(True, lots.is_trap(raft, DEEP_AREA, hub, one))
        self.assertIs(False, lots.is_trap(raft, DEEP_AREA, deck, one))
        self.assertIs(False, lots.is_trap(raft, DEEP_AREA, (beside,), one))

    def test_turning(self):
        seen = set()
        for maker, section, area, lot, arc in self.cases(23, 120):
            for turn in ("left", "right"):
                sampled = all(turn in lots.words_at(section, stand, lot) for stand in stands_on(section, area, arc, 5))
                told = lots.can_turn(section, area, lot, arc, turn)
                self.assertIs(told, told and sampled)
                if sampled and not told:
                    self.holds_gap(section, area, lot, arc, turn)
                seen.add((told, sampled))
        self.assertLessEqual({(True, True), (False, False)}, seen)

    def holds_gap(self, section, area, lot, arc, turn):
        """Holds that more stands, or the rests of single corners, show a stand without the word."""
        stands = list(stands_on(section, area, arc, 400))
        gap = any(turn not in lots.words_at(section, stand, lot) for stand in stands)
        self.assertTrue(gap or "rest" in lots.words_on(section, area, lot, arc))

    def test_turning_by_hand(self):
        self.assertIs(True, lots.can_turn(raft, DEEP_AREA, deck, span, "right"))
        self.assertIs(True, lots.can_turn(raft, DEEP_AREA, deck, span, "left"))
        self.assertIs(False, lots.can_turn(raft, DEEP_AREA, hub, span, "right"))
        beyond, just = ((3, (501, 1000)), (3, (1, 1000))), ((3, (1, 2)), (3, (3, 4)))
        self.assertIs(True, lots.can_turn(raft, DEEP_AREA, ((1, 0, 1),), ((3, (501, 1000)), (3, (3, 4))), "left"))
        self.assertIs(False, lots.can_turn(raft, DEEP_AREA, ((1, 0, 1),), just, "left"))
        self.assertIs(False, lots.can_turn(raft, DEEP_AREA, ((1, 0, 1),), beyond, "left"))
        self.assertIs(True, lots.can_turn(raft, DEEP_AREA, ((0, 0, 1),), ((3, (1, 2)), (3, (1, 2))), "left"))
        self.assertIs(False, lots.can_turn(raft, DEEP_AREA, ((0, 0, 1),), ((3, (1, 2)), (3, (1, 2))), "right"))
        # Nearly once round, and all round, with ballast on each side.
        self.assertIs(True, lots.can_turn(raft, DEEP_AREA, raft, None, "left"))
        self.assertIs(True, lots.can_turn(raft, DEEP_AREA, raft, ((3, (1, 2)), (3, (2, 5))), "right"))

    def test_one_stand_without_the_word(self):
        # With ballast on the line x = y the log rests at root(3 / 4) of edge 0; one corner is firm there, one tipping.
        lot = ((-1, -1, 2), (1, 1, 3))
        for turn in ("left", "right"):
            self.assertIs(False, lots.can_turn(half, (1, 8), lot, ABOUT_ROOT, turn))
            self.assertIs(True, lots.can_turn(half, (1, 8), lot, BEYOND_ROOT, turn))
            self.assertIs(True, lots.can_turn(half, (1, 8), lot, BEFORE_ROOT, turn))
            beside = polygon_of(lot + (point(Fraction(1, 3) + Fraction(1, 10 ** 30), Fraction(1, 3)),
                                       point(Fraction(1, 3) - Fraction(1, 10 ** 30), Fraction(1, 3))))
            self.assertIs(True, lots.can_turn(half, (1, 8), beside, ABOUT_ROOT, turn))
        self.assertEqual(WORDS, lots.words_on(half, (1, 8), lot, BEYOND_ROOT))
        self.assertEqual(("left", "rest", "right"), lots.words_on(half, (1, 8), lot[1:], ABOUT_ROOT))
        self.assertEqual(("left",), lots.words_on(half, (1, 8), lot[1:], BEYOND_ROOT))
        self.assertEqual(("right",), lots.words_on(half, (1, 8), lot[1:], BEFORE_ROOT))

    def test_parts(self):
        seen = set()
        for maker, section, area, lot, arc in self.cases(24, 120):
            for stand in list(stands_on(section, area, arc, 1))[:4]:
                arms = [reckoning.lever(section, corner, stand) for corner in lot]
                told = lots.resting_part(section, stand, lot)
                low = lots.low_part(section, stand, lot)
                self.assertEqual(min(arms) <= 0 <= max(arms), told is not None)
                seen.add((told and len(told), low and len(low)))
                if told is None:
                    self.assertIsNone(low)
                    continue
                self.holds_part(section, stand, lot, told)
                self.holds_low_part(section, stand, told, low)
        self.assertLessEqual({(None, None), (2, 2), (2, None), (1, 1)}, seen)

    def holds_part(self, section, stand, lot, told):
        """Holds that the part rests, belongs to the lot, and ends at its rim."""
        self.assertIs(True, is_polygon(told))
        for corner in told:
            self.assertEqual(0, reckoning.lever(section, corner, stand))
            self.assertTrue(within(lot, spot(corner)))
        a, b, h = ballast_line(section, stand)
        if len(told) == 2:
            for beyond in (between(told[0], told[1], (-1, 10 ** 9)), between(told[1], told[0], (-1, 10 ** 9))):
                self.assertFalse(within(lot, spot(beyond)))
        else:
            x, y, w = told[0]
            for beside in (point(Fraction(x, w) - Fraction(b, 10 ** 30), Fraction(y, w) + Fraction(a, 10 ** 30)),
                           point(Fraction(x, w) + Fraction(b, 10 ** 30), Fraction(y, w) - Fraction(a, 10 ** 30))):
                self.assertFalse(within(lot, spot(beside)))

    def holds_low_part(self, section, stand, told, low):
        """Holds that the low part is what of the resting part is not above the metacentre."""
        m, c = reckoning.metacentre(section, stand), way(section, stand)

        def firm(corner):
            x, y = spot(corner)
            return c[0] * (m[1] - y) - c[1] * (m[0] - x)

        firms = sorted(firm(corner) for corner in told)
        if firms[-1] < 0:
            self.assertIsNone(low)
            return
        self.assertIs(True, is_polygon(low))
        lows = sorted(firm(corner) for corner in low)
        self.assertEqual((max(firms[0], 0), firms[-1]), (lows[0], lows[-1]))
        self.assertTrue(all(within(told, spot(corner)) for corner in low))

    def test_parts_by_hand(self):
        self.assertEqual(((1, 0, 1), (1, 2, 1)), lots.resting_part(raft, flat, raft))
        self.assertEqual(((1, 0, 1), (6, 5, 6)), lots.low_part(raft, flat, raft))
        self.assertEqual(((1, 1, 1),), lots.resting_part(raft, flat, deck))
        self.assertIsNone(lots.low_part(raft, flat, deck))
        self.assertEqual(((6, 5, 6),), lots.low_part(raft, flat, ((6, 5, 6), (1, 1, 1))))
        self.assertEqual(((6, 5, 6), (1, 1, 1)), lots.resting_part(raft, flat, ((6, 5, 6), (1, 1, 1))))
        self.assertEqual(((6, 5, 6),), lots.low_part(raft, flat, ((6, 5, 6),)))
        self.assertEqual(((1, 0, 1),), lots.low_part(raft, flat, ((1, 0, 1), (2, 1, 1))))
        self.assertEqual(((1, -9, 1),), lots.low_part(raft, flat, ((1, -9, 1),)))
        self.assertIsNone(lots.resting_part(raft, flat, ((2, 0, 1), (2, 2, 1))))
        self.assertIsNone(lots.low_part(raft, flat, ((2, 0, 1), (2, 2, 1))))
        self.assertEqual(((1, 2, 1),), lots.resting_part(raft, flat, ((1, 2, 1), (2, 0, 1), (2, 2, 1))))
        self.assertEqual(((0, 1, 1), (1, 1, 1)), lots.resting_part(raft, side, ((0, 1, 1), (1, 1, 1))))

    def test_firmness_of_parts(self):
        for maker, section, area, lot, arc in self.cases(25, 30):
            stand = stand_from(section, area, maker.rim(section))
            for share in ((1, 1), (-1, 1), (0, 1)):
                ballast = ballast_for(section, stand, share)
                self.assertEqual((ballast,), lots.resting_part(section, stand, (ballast,)))
                self.assertEqual((ballast,) if share[0] >= 0 else None, lots.low_part(section, stand, (ballast,)))

    def test_metacentres(self):
        seen = set()
        for maker, section, area, lot, arc in self.cases(26, 160):
            told = lots.meets_metacentres(section, area, lot, arc)
            met = any(within(lot, reckoning.metacentre(section, stand)) for stand in stands_on(section, area, arc, 4))
            self.assertIs(told, told or met)
            seen.add((told, len(lot) < 3))
            if not told and arc is not None:
                self.holds_as_many(section, area, lot, arc)
        self.assertEqual(4, len(seen))

    def holds_as_many(self, section, area, lot, arc):
        """Holds that all ballast has equally many firm and tipping rests on the arc, if none rests at its ends."""
        if any("rest" in lots.words_at(section, stand_from(section, area, rim), lot) for rim in arc):
            return
        told = set()
        for corner in lot[:3]:
            kinds = []
            for index, kind in enumerate(rests((section, area, corner))):
                edge, n, is_just = near((section, area, corner), index, 10 ** 12)
                if is_on_arc(section, arc, (edge, pair(Fraction(n, 10 ** 12)))):
                    kinds.append(kind)
            self.assertNotIn("sliding", kinds)
            told.add((kinds.count("firm"), kinds.count("tipping")))
        self.assertEqual(1, len(told))

    def test_metacentres_by_hand(self):
        # M = (1 - u u u / 3, 5 / 6 + u u / 2) on edge 3, u from -1 to 1, the share (1 + u) / 2.
        def meets(lot, arc=None):
            return lots.meets_metacentres(raft, DEEP_AREA, lot, arc)

        self.assertIs(True, meets(((6, 5, 6),), span))
        self.assertIs(True, meets(((6, 5, 6),), ((3, (1, 2)), (3, (1, 2)))))
        self.assertIs(False, meets(((6, 5, 6),), ((3, (501, 1000)), (3, (3, 4)))))
        self.assertIs(True, meets(((23, 23, 24),), ((3, (3, 4)), (0, (1, 2)))))
        self.assertIs(False, meets((point(Fraction(23, 24), Fraction(23, 24) + Fraction(1, 10 ** 60)),)))
        self.assertIs(False, meets(keel))
        self.assertIs(True, meets(((23, 23, 24), (2, 1, 1))))
        self.assertIs(False, meets(hub))
        # At a corner, on a side, within, nowhere.
        self.assertIs(True, meets(((6, 5, 6), (2, 1, 1), (1, 2, 1)), span))
        self.assertIs(True, meets(((0, 5, 6), (1, 0, 1), (12, 5, 6)), span))
        self.assertIs(True, meets(raft, span))
        self.assertIs(False, meets(((0, 0, 1), (2, 0, 1), (2, 4, 5), (0, 4, 5)), span))
        # The height 1 is met at u = root(1 / 3), the ends of the stretch being 0 and a little less or more than 0.93585.
        self.assertIs(True, meets(((0, 1, 1), (117, 125, 125)), ((3, (1, 2)), (3, (9, 10)))))
        self.assertIs(False, meets(((0, 1, 1), (187, 200, 200)), ((3, (1, 2)), (3, (9, 10)))))
        self.assertIs(False, meets(((0, 1, 1), (117, 125, 125)), ((3, (79, 100)), (3, (9, 10)))))
        self.assertIs(True, meets(((0, 1, 1), (117, 125, 125)), ((3, (39, 50)), (3, (9, 10)))))

    def test_one_stand_with_its_metacentre_on_a_stretch(self):
        lot = ((-1, -1, 2), (-1, -1, 4))
        self.assertIs(True, lots.meets_metacentres(half, (1, 8), lot, ABOUT_ROOT))
        self.assertIs(False, lots.meets_metacentres(half, (1, 8), lot, BEYOND_ROOT))
        self.assertIs(False, lots.meets_metacentres(half, (1, 8), lot, BEFORE_ROOT))
        self.assertIs(False, lots.meets_metacentres(half, (1, 8), ((-1, -1, 4), (0, 0, 1)), ABOUT_ROOT))
        self.assertIs(True, lots.meets_metacentres(half, (1, 8), ((-1, -1, 2), (0, -1, 1), (0, 0, 1)), ABOUT_ROOT))

    def test_firm_for_all(self):
        seen = set()
        for maker, section, area, lot, arc in self.cases(27, 70):
            told = lots.firm_for_all(section, area, lot)
            self.assertIs(told is None, lots.meets_metacentres(section, area, lot, None))
            seen.add(told)
            if told is None:
                continue
            for ballast in lot[:4] + (maker.inner_point(lot), maker.inner_point(lot)):
                kinds = rests((section, area, ballast))
                self.assertNotIn("sliding", kinds)
                self.assertEqual((told, told), (kinds.count("firm"), kinds.count("tipping")))
        self.assertLess(2, len(seen))
        self.assertEqual((1, 4, None), tuple(
            lots.firm_for_all(raft, DEEP_AREA, lot) for lot in (keel, hub, ((6, 5, 6),))))

    def test_great_numbers(self):
        great = 10 ** 150 + 7
        section = ((0, 0, 1), (2 * great, 0, 1), (2 * great, 2 * great, 1), (0, 2 * great, 1))
        area = (2 * great * great, 1)
        lot = ((0, great, 1), (2 * great, great, 1))
        self.assertIs(True, lots.can_turn(section, area, lot, span, "right"))
        self.assertIs(False, lots.can_turn(section, area, ((great, great, 1),), span, "right"))
        self.assertEqual(("left",), lots.words_on(section, area, ((great, 0, 1), (2 * great, great, 2)),
                                                  ((3, (5, 8)), (3, (3, 4)))))
        self.assertIs(True, lots.meets_metacentres(section, area, (point(great, Fraction(5 * great, 6)),), span))
        off = point(great, Fraction(5 * great, 6) - Fraction(1, 10 ** 150))
        self.assertIs(False, lots.meets_metacentres(section, area, (off,), span))
        self.assertEqual(1, lots.firm_for_all(section, area, (off,)))

    def test_arguments(self):
        stand = {"section": raft, "stand": flat, "lot": deck}
        bad = {"section": SECTION, "stand": (InvalidStand, wrong.stands(raft)), "lot": LOT}
        for function in (lots.words_at, lots.resting_part, lots.low_part):
            check_arguments(self, function, stand, bad)
        right = {"section": raft, "area": DEEP_AREA, "lot": keel}
        bad = {"section": SECTION, "area": AREA, "lot": LOT}
        check_arguments(self, lots.firm_for_all, right, bad)
        for arc in (None, span, (span[1], span[0]), (span[0], span[0])):
            right, bad = {**right, "arc": arc}, {**bad, "arc": ARC}
            for function in (lots.words_on, lots.is_trap, lots.meets_metacentres):
                check_arguments(self, function, right, bad)
            for function in (lots.turned_at, lots.can_turn):
                for turn in ("left", "right"):
                    check_arguments(self, function, {**right, "word": turn}, {**bad, "word": WORD})

    def test_stands_of_any_area(self):
        for area in ((1, 100), (1, 2), (99, 100)):
            stand = stand_from(square, area, (0, (1, 3)))
            for ballast in ((-9, 0, 1), (9, 0, 1), metacentre(square, stand)):
                told = (word(reckoning.lever(square, ballast, stand)),)
                self.assertEqual(told, lots.words_at(square, stand, (ballast,)))
                part = (ballast,) if told == ("rest",) else None
                self.assertEqual(part, lots.resting_part(square, stand, (ballast,)))
                self.assertEqual(part, lots.low_part(square, stand, (ballast,)))


if __name__ == "__main__":
    unittest.main()
