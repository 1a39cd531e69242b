"""Notes: what noted stands still let of an unknown ballast, tried ballast by ballast."""

import itertools
import unittest
from fractions import Fraction

from hullrests import notes
from hullrests.cuts import area_of_stand
from hullrests.errors import (InvalidNote, InvalidNotes, InvalidPoint, InvalidPolygon, InvalidSection, InvalidStand,
                              NoBallastFits)
from hullrests.lots import resting_part
from hullrests.metacentres import ballast_for, metacentre
from hullrests.points import between, minus, plus
from hullrests.sections import is_polygon, mirrored, polygon_of
from hullrests.stands import corner_stands, stand_from
from tests import reckoning, wrong
from tests.reckoning import Maker, number, pair, point, sign, spot, within, word
from tests.shapes import ALL, flat, half, hub, keel, raft, side
from tests.wrong import check_arguments, raised

WORDS = ("left", "rest", "right")
SAYINGS = ("left", "right", "rest", "firm", "tipping", "sliding")
# Each ballast keeps just one of these about a stand.
PARTED = ("left", "right", "firm", "tipping", "sliding")
SIDES = {(-1, 1): "firm", (1, -1): "tipping", (1, 1): "sliding", (-1, -1): "sliding"}
SECTION = (InvalidSection, wrong.SECTIONS)
LOT = (InvalidPolygon, wrong.POLYGONS)
POINT = (InvalidPoint, wrong.POINTS)
STAND = (InvalidStand, wrong.stands(raft))
NOTE = (InvalidNote, wrong.notes(raft))
# At flat `left` is x below 1, at side y below 1; here `right` is x + y above 2.
across = ((0, (0, 1)), (2, (0, 1)))
# With the ballast at its metacentre flat is a firm rest, SLIP a sliding one, and DROP, of half, a tipping one.
SLIP, DROP = ((3, (3, 4)), (1, (3, 4))), ((0, (0, 1)), (1, (1, 2)))
# Above half their height, or below it, they are the raft; the other half has one side that leans.
CUT, WIDE = ((0, 0, 1), (2, 0, 1), (2, 1, 1), (0, 2, 1)), ((0, 0, 1), (1, 0, 1), (2, 1, 1), (2, 2, 1), (0, 2, 1))
seen, said = (("rest", flat), ("left", side)), (("firm", flat), ("left", side), ("rest", flat))
# Of three each two are fitted by some ballast; what is near the middle of the raft keeps the idle one.
THREE = (("left", flat), ("left", side), ("right", across))
SMALL = ((9, 9, 10), (11, 9, 10), (11, 11, 10), (9, 11, 10))
IDLE = ("right", ((3, (19, 20)), (0, (1, 4))))


def kind(section, stand, ballast):
    """The kind of a stand that is a rest, by its firmness, else by the levers a little beside it."""
    firm = sign(reckoning.firmness(section, ballast, stand))
    if firm != 0:
        return "firm" if firm > 0 else "tipping"
    (edge, share), size = stand[0], area_of_stand(section, stand)
    signs = []
    for step in (Fraction(-1, 10 ** 9), Fraction(1, 10 ** 9)):
        at = number(share) + step
        near = stand_from(section, size, ((edge - (at < 0)) % len(section), pair(at % 1)))
        signs.append(sign(reckoning.lever(section, ballast, near)))
    return SIDES[tuple(signs)]


def kept(section, ballast, note):
    """Whether a ballast keeps a note, by the tests' own reckoning."""
    saying, stand = note
    told = word(reckoning.lever(section, ballast, stand))
    if saying in WORDS or told != "rest":
        return told == saying
    return kind(section, stand, ballast) == saying


def fits(section, ballast, told):
    """Whether it keeps all notes."""
    return all(kept(section, ballast, note) for note in told)


def mean(points):
    """The mean of points."""
    places = [spot(each) for each in points]
    return point(sum(x for x, y in places) / len(places), sum(y for x, y in places) / len(places))


def some_of(section, lot, stands):
    """Some ballast of a lot: its corners, between them, on the lines of stands, where two cross, at metacentres."""
    found = list(lot) + [mean(lot)] + [between(here, there, (1, 3)) for here in lot for there in lot]
    for stand in stands:
        found.append(metacentre(section, stand))
        part = resting_part(section, stand, lot)
        if part is not None:
            found.extend(between(part[0], part[-1], share) for share in ((0, 1), (1, 4), (1, 2), (9, 10), (1, 1)))
            for other in stands:
                found.extend(resting_part(section, other, part) or ())
    return [each for each in dict.fromkeys(found) if within(lot, spot(each))]


def lots_of(maker, section):
    """Lots that are a point, a stretch, a polygon, the section itself."""
    around = tuple(maker.inner_point(section) for _ in range(4))
    return (section, section, polygon_of(around), polygon_of(around[:2]), (around[0],), maker.polygon(6))


def stands_of(maker, section):
    """Stands of unlike areas, one with an end at a corner, some upside down."""
    found = [stand_from(section, maker.area(section), maker.rim(section, 3)) for _ in range(3)]
    return found + [corner_stands(section, maker.area(section))[1], found[0][::-1]]


class NotesTest(unittest.TestCase):
    def cases(self, seed, many, most=4):
        """Notes as some ballast of a lot keeps each of them, or at random, about lots of each kind."""
        maker = Maker(seed)
        for k in range(many):
            section = ALL[k % len(ALL)] if k % 2 == 0 else maker.polygon(3 + k % 6)
            lot, stands = maker.random.choice(lots_of(maker, section)), stands_of(maker, section)
            told, places = [], some_of(section, lot, stands)
            one = maker.random.choice(places)
            for _ in range(maker.random.randint(0, most)):
                stand, saying = maker.random.choice(stands), maker.random.choice(SAYINGS)
                if k % 4:
                    at = one if k % 4 == 1 else maker.random.choice(places)
                    saying = word(reckoning.lever(section, at, stand))
                    if saying == "rest" and maker.random.random() < 0.7:
                        saying = kind(section, stand, at)
                told.append((saying, stand))
            yield maker, section, lot, tuple(told), stands

    def test_kinds(self):
        for section in ALL:
            for value in wrong.notes(section):
                self.assertIs(False, notes.is_note(section, value))
            stand = stand_from(section, pair(reckoning.area([spot(each) for each in section]) / 3), (0, (1, 2)))
            for saying in SAYINGS:
                self.assertIs(True, notes.is_note(section, (saying, stand)))
                self.assertIs(True, notes.is_note(value=(saying, stand[::-1]), section=section))

    def test_keeping(self):
        for maker, section, lot, told, stands in self.cases(71, 40):
            for stand in stands:
                here = [ballast_for(section, stand, firm) for firm in ((1, 1), (-1, 1), (1, 10 ** 30), (-3, 10 ** 30))]
                here.append(metacentre(section, stand))
                here.extend((plus(here[-1], (0, 1, 10 ** 30)), minus(here[0], (1, 0, 10 ** 30)), maker.point()))
                for ballast in here:
                    keeping = [saying for saying in SAYINGS if notes.keeps(section, ballast, (saying, stand))]
                    self.assertEqual([each for each in SAYINGS if kept(section, ballast, (each, stand))], keeping)
                    self.assertEqual(1, len([saying for saying in keeping if saying != "rest"]))

    def test_keeping_by_hand(self):
        for ballast, saying in (((1, 0, 1), "firm"), ((1, 1, 1), "tipping"), ((6, 5, 6), "firm"), ((1, -9, 1), "firm"),
                                ((200, 167, 200), "tipping"), ((0, 1, 1), "left"), ((601, 500, 600), "right")):
            self.assertEqual([saying], [each for each in PARTED if notes.keeps(raft, ballast, (each, flat))])
            self.assertIs(saying in ("firm", "tipping"), notes.keeps(raft, ballast, ("rest", flat)))
        for section, stand, saying in ((raft, flat, "firm"), (raft, SLIP, "sliding"), (half, DROP, "tipping")):
            ballast = metacentre(section, stand)
            self.assertEqual([saying], [each for each in PARTED if notes.keeps(section, ballast, (each, stand))])
            self.assertIs(True, notes.keeps(section, ballast, ("rest", stand)))

    def test_metacentres_where_two_pieces_meet(self):
        # On one side of the stand both ends lie on upright edges, so the lever has a triple root on that side alone.
        for section, stand in ((CUT, ((3, (1, 2)), (2, (0, 1)))), (mirrored(CUT), ((3, (0, 1)), (1, (1, 2)))),
                               (WIDE, ((4, (1, 2)), (2, (0, 1)))), (mirrored(WIDE), ((0, (0, 1)), (2, (1, 2))))):
            ballast = metacentre(section, stand)
            self.assertEqual("sliding", kind(section, stand, ballast))
            self.assertEqual(["sliding"], [each for each in PARTED if notes.keeps(section, ballast, (each, stand))])

    def test_parts(self):
        many = set()
        for maker, section, lot, told, stands in self.cases(72, 130):
            part, ballast = notes.fitting_part(section, lot, told), notes.fitting_ballast(section, lot, told)
            tried = [each for each in some_of(section, lot, [stand for saying, stand in told])
                     if fits(section, each, told)]
            many.add((min(len(lot), 3), None if part is None else min(len(part), 3)))
            self.assertEqual(part, notes.fitting_part(section, lot, told[::-1]))
            self.assertEqual((lot, mean(lot)), (notes.fitting_part(section, lot, ()),
                                                notes.fitting_ballast(section, lot, ())))
            if part is None:
                self.assertEqual((None, []), (ballast, tried))
                continue
            self.assertIs(True, is_polygon(part))
            self.assertEqual(mean(part), ballast)
            self.assertTrue(fits(section, ballast, told))
            for corner in part:
                self.assertTrue(within(lot, spot(corner)))
                self.assertTrue(fits(section, between(corner, ballast, (1, 10 ** 6)), told))
            self.assertTrue(all(within(part, spot(each)) for each in tried))
        self.assertLessEqual({(1, None), (1, 1), (2, None), (2, 2), (3, None), (3, 2), (3, 3)}, many)

    def part(self, *told, lot=raft):
        """The part of the raft's ballast that fits."""
        return notes.fitting_part(raft, lot, told)

    def test_parts_by_hand(self):
        self.assertEqual(((0, 0, 1), (1, 0, 1), (1, 2, 1), (0, 2, 1)), self.part(("left", flat)))
        self.assertEqual(((1, 0, 1), (1, 2, 1)), self.part(("rest", flat)))
        self.assertEqual(((1, 0, 1), (6, 5, 6)), self.part(("firm", flat)))
        self.assertEqual(((6, 5, 6), (1, 2, 1)), self.part(("tipping", flat)))
        self.assertEqual(((23, 23, 24),), self.part(("sliding", SLIP)))
        self.assertIsNone(self.part(("sliding", flat)))
        # The end of a half line belongs to it only with the kind that the metacentre has.
        self.assertEqual(((6, 5, 6),), self.part(("firm", flat), lot=((6, 5, 6),)))
        self.assertEqual(((6, 5, 6),), self.part(("firm", flat), lot=((6, 5, 6), (1, 2, 1))))
        self.assertIsNone(self.part(("tipping", flat), lot=((6, 5, 6),)))
        self.assertIsNone(self.part(("tipping", flat), lot=((1, 0, 1), (6, 5, 6))))
        one = ((23, 23, 24),)
        for saying, part in (("firm", None), ("tipping", None), ("rest", one), ("sliding", one)):
            self.assertEqual(part, self.part((saying, SLIP), lot=one))
        for saying, part in (("firm", None), ("tipping", ((5, 3, 12),)), ("sliding", None)):
            self.assertEqual(part, notes.fitting_part(half, ((5, 3, 12),), ((saying, DROP),)))
        # Of a stretch a point, a stretch and nothing.
        deep = ((0, 1, 1), (2, 1, 1))
        self.assertEqual(((1, 1, 1),), self.part(("rest", flat), lot=deep))
        self.assertEqual(((1, 1, 1), (2, 1, 1)), self.part(("right", flat), ("rest", side), lot=deep))
        self.assertIsNone(self.part(("left", flat), ("right", across), lot=deep))
        # More corners than the lot.
        self.assertEqual(((0, 0, 1), (1, 0, 1), (1, 1, 1), (0, 2, 1)),
                         self.part(("left", flat), lot=((0, 0, 1), (2, 0, 1), (0, 2, 1))))
        four = ((0, 0, 1), (2, 0, 1), (1, 3, 1), (0, 1, 1))
        self.assertEqual(5, len(self.part(("left", across), ("left", flat), lot=four)))
        # Stands of unlike areas, in lighter and in heavier water.
        light, heavy = ((3, (7, 8)), (1, (1, 8))), ((3, (1, 4)), (1, (3, 4)))
        self.assertEqual(((1, 0, 1), (1, 2, 1)), self.part(("rest", light), ("rest", heavy), ("rest", flat)))
        self.assertIsNone(self.part(("left", light), ("right", heavy)))
        self.assertEqual(((1, 1, 1),), self.part(("rest", heavy), ("rest", side), ("rest", across)))

    def test_open_half_planes_at_corners_and_sides(self):
        corner = ((1, 0, 1), (2, 0, 1), (2, 1, 1))
        self.assertIsNone(self.part(("left", flat), lot=corner))
        self.assertEqual(((1, 0, 1),), self.part(("rest", flat), lot=corner))
        self.assertEqual(corner, self.part(("right", flat), lot=corner))
        along = ((1, 0, 1), (2, 0, 1), (2, 1, 1), (1, 1, 1))
        self.assertIsNone(self.part(("left", flat), lot=along))
        self.assertEqual(along, self.part(("right", flat), lot=along))
        self.assertIsNone(self.part(("left", flat), ("right", flat)))
        self.assertIsNone(self.part(("right", flat), ("rest", side), lot=((0, 1, 1), (1, 1, 1))))
        self.assertEqual(((1, 1, 1), (2, 1, 1)), self.part(("right", flat), ("rest", side)))
        # Two of them whose rims cross at a corner of the lot, or just within it.
        self.assertIsNone(self.part(("left", flat), ("left", side), lot=((1, 1, 1), (2, 1, 1), (2, 2, 1))))
        self.assertIsNone(self.part(*THREE))
        tiny = point(1 - Fraction(1, 10 ** 40), 1 - Fraction(1, 10 ** 40))
        self.assertEqual((tiny,), self.part(("left", flat), ("left", side), lot=(tiny,)))

    def test_at_odds(self):
        sizes = set()
        for maker, section, lot, told, stands in self.cases(73, 90, 6):
            odd = notes.at_odds(section, lot, told)
            self.assertEqual(odd is None, notes.fitting_part(section, lot, told) is not None)
            if odd is not None:
                sizes.add(len(odd))
                picks = [pick for many in (1, 2, 3) for pick in itertools.combinations(range(len(told)), many)]
                self.assertEqual(odd, next(pick for pick in picks if notes.fitting_part(
                    section, lot, tuple(told[k] for k in pick)) is None))
        self.assertLessEqual({1, 2}, sizes)

    def test_at_odds_by_hand(self):
        self.assertIsNone(notes.at_odds(raft, raft, ()))
        self.assertEqual((0, 1, 2), notes.at_odds(raft, raft, THREE))
        for two in itertools.permutations(THREE, 2):
            self.assertIsNone(notes.at_odds(raft, raft, two))
        self.assertEqual((0, 1, 3), notes.at_odds(raft, raft, THREE[:2] + THREE[:1] + THREE[2:]))
        self.assertEqual((0, 2, 4), notes.at_odds(raft, raft, THREE[2:] * 2 + THREE[1:2] * 2 + THREE[:1]))
        self.assertEqual((1,), notes.at_odds(raft, raft, (THREE[0], ("sliding", flat), ("right", flat))))
        self.assertEqual((0, 3), notes.at_odds(raft, raft, THREE + (("right", flat),)))
        self.assertEqual((0, 2), notes.at_odds(raft, raft, (THREE[0], THREE[0], ("rest", flat), ("rest", flat))))
        self.assertEqual((0,), notes.at_odds(raft, ((3, 1, 1),), (("left", flat), IDLE)))
        # The lot counts, too: each of the two is kept by some ballast of the raft, but not by some of the hub.
        self.assertEqual((1,), notes.at_odds(raft, hub, (("rest", flat), ("firm", flat), ("left", flat))))
        # Twelve notes: nine and more that all ballast of the lot keeps, and some at odds.
        self.assertEqual((9, 10, 11), notes.at_odds(raft, SMALL, (IDLE,) * 9 + THREE))
        twelve = THREE[:1] + (IDLE,) * 5 + THREE[1:2] + (IDLE,) * 4 + THREE[2:]
        self.assertEqual((0, 6, 11), notes.at_odds(raft, SMALL, twelve))
        self.assertEqual((10, 11), notes.at_odds(raft, SMALL, (IDLE,) * 10 + (("rest", across), ("left", across))))
        self.assertEqual((11,), notes.at_odds(raft, SMALL, (IDLE,) * 11 + (("sliding", side),)))
        self.assertIsNone(notes.at_odds(raft, SMALL, (IDLE,) * 12))

    def is_sure(self, section, lot, told, note):
        """Whether no ballast that fits keeps another saying about the stand."""
        saying, stand = note
        others = ("left", "right") if saying == "rest" else [each for each in PARTED if each != saying]
        return all(notes.fitting_part(section, lot, told + ((each, stand),)) is None for each in others)

    def status(self, section, lot, told, note):
        """The status, by which sayings still fit."""
        if self.is_sure(section, lot, told, note):
            return "sure"
        return "never" if notes.fitting_part(section, lot, told + (note,)) is None else "open"

    def test_status(self):
        came = set()
        for maker, section, lot, told, stands in self.cases(74, 130):
            stand = maker.random.choice(stands)
            if notes.fitting_part(section, lot, told) is None:
                raised(self, NoBallastFits, {}, notes.status_of, section, lot, told, ("left", stand))
                raised(self, NoBallastFits, {}, notes.words_left, section, lot, told, stand)
                continue
            tried = some_of(section, lot, [stand] + [each for saying, each in told])
            tried = [each for each in tried if fits(section, each, told)]
            for saying in SAYINGS:
                status = notes.status_of(section, lot, told, (saying, stand))
                self.assertEqual(self.status(section, lot, told, (saying, stand)), status)
                keeping = {kept(section, each, (saying, stand)) for each in tried}
                self.assertLessEqual(keeping, {"sure": {True}, "never": {False}, "open": {True, False}}[status])
                came.add((saying, status))
            words = notes.words_left(section, lot, told, stand)
            self.assertEqual(tuple(each for each in WORDS if notes.fitting_part(
                section, lot, told + ((each, stand),)) is not None), words)
            self.assertLessEqual({word(reckoning.lever(section, each, stand)) for each in tried}, set(words))
            for note in told:
                self.assertEqual("sure", notes.status_of(section, lot, told, note))
        self.assertGreater(len(came), 13)

    def test_status_by_hand(self):
        up, quarter = ((1, 1, 1), (2, 2, 1)), ((0, 0, 1), (1, 0, 1), (1, 2, 1), (0, 2, 1))
        for lot, told, note, status in (
                (raft, (), ("left", flat), "open"), (raft, THREE[:1], ("left", flat), "sure"),
                (raft, THREE[:1], ("rest", flat), "never"), (raft, THREE[:1], ("right", flat[::-1]), "sure"),
                (raft, THREE[:1], ("left", flat[::-1]), "never"),
                (raft, THREE[:1], ("left", ((3, (7, 8)), (1, (1, 8)))), "sure"),
                # The one end of a stretch on the rim fits, or does not.
                (up, (), ("right", side), "open"), (up, (("right", flat),), ("right", side), "sure"),
                (up, (("right", flat),), ("rest", side), "never"), (up, (("rest", flat),), ("rest", side), "sure"),
                (up, (("right", across),), ("right", flat), "sure"), (up, (), ("left", side), "never"),
                # A side on the rim of the open half plane, of which a part fits, an end alone, or nothing.
                (quarter, (("left", side),), ("left", flat), "open"), (quarter, (), ("left", flat), "open"),
                (quarter, (("right", across),), ("right", side), "sure"),
                (quarter, (("rest", across),), ("left", side), "never"),
                (quarter, (("rest", across),), ("left", flat), "open"),
                (quarter, (("rest", across), ("left", flat)), ("right", side), "sure"),
                # Half lines with and without their ends.
                (raft, (("rest", flat),), ("firm", flat), "open"),
                (raft, (("firm", flat),), ("tipping", flat), "never"),
                (((1, 0, 1), (6, 5, 6)), (), ("firm", flat), "sure"),
                (((1, 0, 1), (6, 5, 6)), (), ("tipping", flat), "never"),
                (((6, 5, 6), (1, 2, 1)), (), ("tipping", flat), "open"),
                (((6, 5, 6), (1, 2, 1)), (("right", side),), ("tipping", flat), "sure"),
                (hub, (), ("rest", flat), "sure"), (hub, (), ("tipping", flat), "sure"),
                (hub, (), ("firm", flat), "never"),
                (((23, 23, 24),), (), ("sliding", SLIP), "sure"), (raft, (), ("sliding", SLIP), "open"),
                (raft, (), ("sliding", flat), "never")):
            self.assertEqual(status, notes.status_of(raft, lot, told, note))
        for lot, told, words in ((raft, (), WORDS), (hub, (), ("rest",)), (raft, THREE[:1], ("left",)),
                                 (keel, THREE[1:2], ("rest",)), (up, (), ("rest", "right")),
                                 (up, (("right", across),), ("right",)), (SMALL, THREE[1:], ("right",))):
            self.assertEqual(words, notes.words_left(raft, lot, told, flat))

    def test_needless_and_kept(self):
        many = set()
        for maker, section, lot, told, stands in self.cases(75, 110, 5):
            told = told + maker.random.choice(((), told[:1], told[-1:]))
            if notes.fitting_part(section, lot, told) is None:
                for function in (notes.needless_notes, notes.kept_notes):
                    raised(self, NoBallastFits, {}, function, section, lot, told)
                continue
            needless, left = [], list(range(len(told)))
            for k, note in enumerate(told):
                if self.is_sure(section, lot, told[:k] + told[k + 1:], note):
                    needless.append(k)
                if self.is_sure(section, lot, tuple(told[j] for j in left if j != k), note):
                    left.remove(k)
            self.assertEqual(tuple(needless), notes.needless_notes(section, lot, told))
            self.assertEqual(tuple(left), notes.kept_notes(section, lot, told))
            kept_ones = tuple(told[k] for k in left)
            self.assertEqual(notes.fitting_part(section, lot, told), notes.fitting_part(section, lot, kept_ones))
            self.assertIs(True, notes.tells_all(section, lot, kept_ones, told))
            many.add((len(needless), len(left)))
        self.assertGreater(len(many), 8)

    def test_needless_and_kept_by_hand(self):
        rest_three = tuple(("rest", stand) for stand in (flat, side, across))
        for lot, told, needless, left in (
                (raft, (), (), ()), (raft, said, (1, 2), (0,)), (raft, THREE[:1] * 2, (0, 1), (1,)),
                (raft, rest_three, (0, 1, 2), (1, 2)), (raft, THREE[:2], (), (0, 1)), (hub, rest_three, (0, 1, 2), ()),
                (SMALL, (IDLE,) * 12, tuple(range(12)), ()), (raft, (IDLE,) * 12, tuple(range(12)), (11,)),
                (SMALL, (IDLE,) * 10 + THREE[:2], tuple(range(10)), (10, 11)),
                (raft, (("left", flat), ("left", side), ("left", across)), (2,), (0, 1))):
            self.assertEqual(needless, notes.needless_notes(raft, lot, told))
            self.assertEqual(left, notes.kept_notes(raft, lot, told))

    def test_telling_all(self):
        seen_ones = set()
        for maker, section, lot, told, stands in self.cases(76, 110, 3):
            others = tuple((maker.random.choice(SAYINGS[:5]), maker.random.choice(stands))
                           for _ in range(maker.random.randint(0, 2))) + told[1:2]
            if notes.fitting_part(section, lot, told) is None:
                raised(self, NoBallastFits, {}, notes.tells_all, section, lot, told, others)
                continue
            expected = all(self.is_sure(section, lot, told, note) for note in others)
            self.assertIs(expected, notes.tells_all(section, lot, told, others))
            seen_ones.add((expected, len(others)))
        self.assertGreater(len(seen_ones), 5)
        for told, others, expected in ((said, seen, True), (seen, said, False), ((), (), True), (seen, (), True),
                                       ((), seen, False), (THREE[:2], (("left", across),), True),
                                       (THREE[:2], THREE, False), (THREE[:1] + THREE[2:], (("right", side),), True),
                                       (THREE[:1], (("left", flat),) * 12, True)):
            self.assertIs(expected, notes.tells_all(raft, raft, told, others))

    def test_great_numbers(self):
        great = 10 ** 140 + 7
        section = tuple((x * great, y * great, 1) for x, y, w in raft)
        self.assertEqual((0, 1, 2), notes.at_odds(section, section, THREE))
        self.assertEqual((great, great, 2), notes.fitting_ballast(section, section, THREE[:2]))
        corner = (great * great - 1, great * great - 1, great)
        self.assertEqual((corner,), notes.fitting_part(section, (corner,), THREE[:2]))
        self.assertIsNone(notes.fitting_part(section, (corner,), THREE[2:]))
        self.assertEqual("sure", notes.status_of(section, (corner,), (), ("left", across)))

    def test_arguments(self):
        check_arguments(self, notes.is_note, {"section": raft, "value": None}, {"section": SECTION})
        check_arguments(self, notes.keeps, {"section": raft, "ballast": (1, 1, 1), "note": ("firm", flat)},
                        {"section": SECTION, "ballast": POINT, "note": NOTE})
        bad = {"section": SECTION, "lot": LOT}
        for lot in (raft, hub, ((0, 1, 1), (2, 1, 1))):
            right = {"section": raft, "lot": lot, "notes": ()}
            for function in (notes.fitting_part, notes.fitting_ballast, notes.at_odds, notes.needless_notes,
                             notes.kept_notes):
                check_arguments(self, function, right, bad)
            check_arguments(self, notes.status_of, {**right, "note": ("sliding", SLIP)}, {**bad, "note": NOTE})
            check_arguments(self, notes.words_left, {**right, "stand": SLIP}, {**bad, "stand": STAND})
            check_arguments(self, notes.tells_all, {**right, "others": (IDLE,) * 12}, bad)

    def test_notes_as_arguments(self):
        for function, more in ((notes.fitting_part, ()), (notes.fitting_ballast, ()), (notes.at_odds, ()),
                               (notes.needless_notes, ()), (notes.kept_notes, ()), (notes.status_of, (None,)),
                               (notes.words_left, (None,)), (notes.tells_all, (None,))):
            for value in (None, [], [IDLE], 0, True, "left", {}, IDLE[0], wrong.Odd()):
                raised(self, InvalidNotes, {"index": None}, function, raft, raft, value, *more)
                raised(self, InvalidPolygon, {"given": ()}, function, raft, (), value, *more)
            for value in wrong.notes(raft):
                raised(self, InvalidNotes, {"index": 0}, function, raft, raft, (value, value), *more)
                raised(self, InvalidNotes, {"index": 2}, function, raft, raft, (IDLE, IDLE, value, None) * 4, *more)
                raised(self, InvalidNotes, {"index": 11}, function, raft, raft, (IDLE,) * 11 + (value,), *more)
            raised(self, InvalidNotes, {"index": 12}, function, raft, raft, (IDLE,) * 13, *more)
            raised(self, InvalidNotes, {"index": 12}, function, raft, raft, (IDLE,) * 12 + (None, None), *more)
            raised(self, InvalidNotes, {"index": 0}, function, raft, raft, flat, *more)
        for value, index in ((None, None), ([], None), ((IDLE,) * 13, 12), ((IDLE, None), 1), (IDLE, 0)):
            raised(self, InvalidNotes, {"index": index}, notes.tells_all, raft, raft, (), value)
            raised(self, InvalidNotes, {"index": index}, notes.tells_all, others=value, notes=THREE, lot=raft,
                   section=raft)

    def test_what_is_told_last(self):
        odd = (("left", flat), ("rest", flat))
        raised(self, NoBallastFits, {}, notes.status_of, raft, raft, odd, ("rest", side))
        raised(self, NoBallastFits, {}, notes.words_left, raft, raft, THREE, side)
        raised(self, NoBallastFits, {}, notes.tells_all, raft, hub, odd, ())
        raised(self, NoBallastFits, {}, notes.needless_notes, notes=odd, lot=raft, section=raft)
        raised(self, NoBallastFits, {}, notes.kept_notes, raft, raft, odd)
        raised(self, InvalidNote, {"given": None}, notes.status_of, raft, raft, odd, None)
        raised(self, InvalidStand, {"given": None}, notes.words_left, raft, raft, odd, None)
        raised(self, InvalidNotes, {"index": 1}, notes.tells_all, raft, raft, odd, (IDLE, odd))


if __name__ == "__main__":
    unittest.main()
