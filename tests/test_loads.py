"""Loads, lifts, shifts, decks, flooded parts, and sections on a dry floor."""

import unittest
from fractions import Fraction

from hullrests import loads
from hullrests.cuts import area_of_stand, dry_part, line_at
from hullrests.draughts import loading_profile, profile_sign
from hullrests.errors import InvalidFraction, InvalidIndex, InvalidLog, InvalidPoint, InvalidPolygon, InvalidSection
from hullrests.errors import InvalidStand, Lifted, NotInside, Same, Sunk
from hullrests.levers import word_at
from hullrests.metacentres import ballast_line
from hullrests.points import between, minus, plus, quarter, times
from hullrests.sections import area_of, grown, is_inside, is_section, middle_of, mirrored, moved, on_rim, polygon_of, rim_of
from hullrests.sections import turned
from hullrests.stands import stand_from
from tests import reckoning, wrong
from tests.reckoning import Maker, cross, number, pair, point, sign, spot, within
from tests.shapes import ALL, LEVEL, SLANT, SQUARE, beam, hexagon, house, octagon, raft, sail, square
from tests.wrong import check_arguments, raised

LOG = (raft, (2, 1), (1, 1, 1))
SLOPE = ((0, 0, 1), (1, 0, 1), (5, 1, 1))
TINY = Fraction(1, 10 ** 50)


def moments(log):
    """The area times the ballast."""
    x, y = spot(log[2])
    return (number(log[1]) * x, number(log[1]) * y)


class LoadsTest(unittest.TestCase):
    def each(self, many=24):
        """Logs, each with the maker."""
        maker = Maker(41)
        for section in ALL + tuple(maker.polygon(3 + k % 6) for k in range(many)):
            yield maker, (section, maker.area(section), maker.random.choice((maker.point(), maker.inner_point(section))))

    def weights(self, maker, log):
        """Weights with which the log floats: above 0, below 0, and 0."""
        free = reckoning.area([spot(corner) for corner in log[0]]) - number(log[1])
        for share in (Fraction(maker.random.randint(1, 9), 10), 1 - TINY, TINY):
            yield pair(free * share)
            yield pair(-number(log[1]) * share)
        yield (0, 1)

    def test_loads_and_lifts(self):
        for maker, log in self.each():
            section, area, ballast = log
            for weight in self.weights(maker, log):
                place = maker.point()
                told = loads.loaded(log, weight, place)
                self.assertEqual((section, pair(number(area) + number(weight))), told[:2])
                (x, y), (u, v), w = moments(log), spot(place), number(weight)
                self.assertEqual((x + w * u, y + w * v), moments(told))
                # What is taken off where it was put leaves the log as it was.
                self.assertEqual(log, loads.loaded(told, pair(-w), place))
                # At its own ballast the load leaves it there.
                self.assertEqual(ballast, loads.loaded(log, weight, ballast)[2])
            self.assertEqual(log, loads.loaded(log, (0, 1), maker.point()))

    def test_bounds(self):
        for maker, log in self.each(6):
            section, area, ballast = log
            size, place = reckoning.area([spot(corner) for corner in section]), maker.point()
            for function, where in ((loads.loaded, place), (loads.lot_loaded, (place,))):
                for over in (Fraction(0), TINY, Fraction(7, 3), Fraction(10 ** 80)):
                    weight = pair(size + over - number(area))
                    raised(self, Sunk, {"given": pair(size + over)}, function, log, weight, where)
                    weight = pair(-over - number(area))
                    raised(self, Lifted, {"given": pair(-over)}, function, log, weight, where)
                self.assertEqual(pair(size - TINY), self.area_then(function, log, size - TINY, where))
                self.assertEqual(pair(TINY), self.area_then(function, log, TINY, where))
        raised(self, Sunk, {"given": (4, 1)}, loads.loaded, LOG, (2, 1), (1, 0, 1))
        raised(self, Lifted, {"given": (0, 1)}, loads.loaded, LOG, (-2, 1), (1, 0, 1))

    def area_then(self, function, log, wanted, where):
        """The area with the weight that leads to the one wanted."""
        told = function(log, pair(wanted - number(log[1])), where)
        return told[1] if function == loads.loaded else told[0]

    def test_two_loads_are_one(self):
        for maker, log in self.each(6):
            free = reckoning.area([spot(corner) for corner in log[0]]) - number(log[1])
            one, other = pair(free / 3), pair(free / 2)
            here, there = maker.point(), maker.point()
            both = loads.loaded(loads.loaded(log, one, here), other, there)
            self.assertEqual(both, loads.loaded(loads.loaded(log, other, there), one, here))
            # Both together weigh 5 / 6 of what is free, 2 / 5 of it here, 3 / 5 there.
            self.assertEqual(both, loads.loaded(log, pair(free * 5 / 6), between(here, there, (3, 5))))

    def test_shifts(self):
        for maker, log in self.each():
            section, area, ballast = log
            for weight in ((0, 1), (1, 3), (-7, 2), (10 ** 40, 1), (1, 10 ** 40)):
                here, there = maker.point(), maker.point()
                told = loads.shifted(log, weight, here, there)
                self.assertEqual((section, area), told[:2])
                (x, y), (u, v), (p, q), w = moments(log), spot(here), spot(there), number(weight)
                self.assertEqual((x + w * (p - u), y + w * (q - v)), moments(told))
                self.assertEqual(log, loads.shifted(told, weight, there, here))
                self.assertEqual(log, loads.shifted(told, pair(-w), here, there))
                self.assertEqual(log, loads.shifted(log, weight, here, here))
                farther = maker.point()
                self.assertEqual(loads.shifted(log, weight, here, farther),
                                 loads.shifted(told, weight, there, farther))
            if number(area) > 1:
                # Lifted off at one place and put at the other one.
                lifted = loads.loaded(log, (-1, 2), here)
                self.assertEqual(loads.shifted(log, (1, 2), here, there), loads.loaded(lifted, (1, 2), there))
        self.assertEqual((raft, (2, 1), (3, 2, 2)), loads.shifted(LOG, (1, 2), (0, 0, 1), (2, 0, 1)))

    def decks(self, maker):
        """A point, a stretch, and polygons."""
        return ((maker.point(),), polygon_of((maker.point(), maker.point())), maker.polygon(3), maker.polygon(7))

    def test_lots(self):
        kinds = set()
        for maker, log in self.each(10):
            for weight in self.weights(maker, log):
                for deck in self.decks(maker):
                    area, lot = loads.lot_loaded(log, weight, deck)
                    self.assertEqual(pair(number(log[1]) + number(weight)), area)
                    ends = [loads.loaded(log, weight, corner)[2] for corner in deck]
                    self.assertEqual([point(x, y) for x, y in sorted(set(reckoning.hull([spot(end) for end in ends])))],
                                     [point(*place) for place in sorted(spot(corner) for corner in lot)])
                    self.assertEqual(lot, polygon_of(tuple(ends)))
                    place = maker.inner_point(deck)
                    self.assertTrue(within(lot, spot(loads.loaded(log, weight, place)[2])))
                    away = loads.loaded(log, weight, (99, 1, 1))[2]
                    self.assertIs(weight[0] == 0, within(lot, spot(away)))
                    kinds.add((len(lot), sign(weight[0])))
                    self.assertEqual(1 if weight[0] == 0 else len(deck), len(lot))
        self.assertLessEqual({(1, 0), (1, 1), (1, -1), (2, 1), (2, -1), (3, 1), (3, -1), (7, 1), (7, -1)}, kinds)
        self.assertEqual(((3, 1), ((2, 4, 3), (4, 4, 3))), loads.lot_loaded(LOG, (1, 1), ((0, 2, 1), (2, 2, 1))))
        # What is lifted off at the right brings the ballast to the left.
        self.assertEqual(((1, 1), ((0, 0, 1), (2, 0, 1))), loads.lot_loaded(LOG, (-1, 1), ((0, 2, 1), (2, 2, 1))))

    def words(self, log, stand, deck):
        """The words at the stand with the load that brings the log to it, at each corner of the deck."""
        weight = pair(number(area_of_stand(log[0], stand)) - number(log[1]))
        return [word_at(log[0], loads.loaded(log, weight, corner)[2], stand) for corner in deck]

    def test_balancing_parts(self):
        seen = set()
        for maker, log in self.each(16):
            section, area, ballast = log
            for turn in range(6):
                stand = stand_from(section, maker.area(section), maker.rim(section))
                size = area_of_stand(section, stand)
                for deck in self.decks(maker) + (section,):
                    if size == area:
                        raised(self, Same, {"given": area}, loads.balancing_part, log, stand, deck)
                        continue
                    part = loads.balancing_part(log, stand, deck)
                    words = self.words(log, stand, deck)
                    self.assertIs(set(words) in ({"left"}, {"right"}), part is None)
                    seen.add((part and len(part), sign(number(size) - number(area))))
                    if part is None:
                        continue
                    self.assertEqual({"rest"}, set(self.words(log, stand, part)))
                    self.assertTrue(all(within(deck, spot(corner)) for corner in part))
                    self.assertEqual(part, polygon_of(part))
                    # Nothing else of the deck's rim is a place for it: what is, lies at the ends of the part.
                    places = [corner for corner, word in zip(deck, words) if word == "rest"]
                    self.assertTrue(all(within(part, spot(place)) for place in places))
                    turns = sum(one != other and "rest" not in (one, other) for one, other in zip(words, words[1:]))
                    turns += len(deck) > 2 and {words[-1], words[0]} == {"left", "right"}
                    self.assertEqual(turns + len(places), len(part))
        self.assertLessEqual({(None, 1), (None, -1), (2, 1), (2, -1)}, seen)

    def test_balancing_by_hand(self):
        top, mark = ((0, 2, 1), (2, 2, 1)), ((3, (1, 4)), (1, (3, 4)))
        self.assertEqual(((1, 2, 1),), loads.balancing_part(LOG, mark, top))
        # The load may be at any height, and must weigh 1 in the middle, as the ballast is there, too.
        self.assertEqual(((1, 0, 1), (1, 2, 1)), loads.balancing_part(LOG, mark, raft))
        self.assertEqual(((1, 7, 1),), loads.balancing_part(LOG, mark, ((1, 7, 1),)))
        self.assertIsNone(loads.balancing_part(LOG, mark, ((1001, 7, 1000),)))
        self.assertIsNone(loads.balancing_part(LOG, mark, ((11, 7, 10), (2, 0, 1))))
        self.assertEqual(((1, 0, 1), (1, 5, 1)), loads.balancing_part(LOG, mark, ((1, 0, 1), (1, 5, 1))))
        self.assertEqual(((1, 0, 1),), loads.balancing_part(LOG, mark, ((1, 0, 1), (2, 0, 1))))
        # A lighter stand, with the ballast at 3 / 2: what weighs 1 and lies at 2 is to be lifted off.
        low, aside = ((3, (3, 4)), (1, (1, 4))), (raft, (2, 1), (3, 2, 2))
        self.assertEqual(((2, 0, 1), (2, 2, 1)), loads.balancing_part(aside, low, raft))
        self.assertIsNone(loads.balancing_part(aside, low, ((0, 0, 1), (1, 0, 1))))
        # A heavier one: the load lies at 0.
        self.assertEqual(((0, 0, 1), (0, 2, 1)), loads.balancing_part(aside, mark, raft))
        for stand in (LEVEL, ((0, (1, 2)), (2, (1, 2))), ((3, (1, 4)), (1, (1, 4)))):
            raised(self, Same, {"given": (2, 1)}, loads.balancing_part, LOG, stand, top)
            raised(self, Same, {"given": (2, 1)}, loads.balancing_part, stand=stand, deck=top, log=LOG)

    def test_a_load_beside_a_loading_profile(self):
        # Held at a heel and loaded up to a height, the log has the word of the profile there.
        words = {1: "left", 0: "rest", -1: "right"}
        for section, up in ((raft, (0, 1)), (sail, (1, 2)), (house, (-1, 3)), (hexagon, (2, 1)), (octagon, (1, -1))):
            low, high = min(map(lambda each: reckoning.height(up, spot(each)), section)), max(
                map(lambda each: reckoning.height(up, spot(each)), section))
            start = line_at(section, up, pair(low + (high - low) / 5))
            ballast, place = (1, 4, 3), (2, -1, 3)
            log = (section, area_of_stand(section, start), ballast)
            profile = loading_profile(section, up, pair(low + (high - low) / 5), ballast, place)
            for share in (2, 3, 4):
                height = pair(low + (high - low) * share / 5)
                stand = line_at(section, up, height)
                weight = pair(number(area_of_stand(section, stand)) - number(log[1]))
                there = loads.loaded(log, weight, place)
                self.assertEqual(words[profile_sign(profile, height)], word_at(section, there[2], stand))

    def test_flooded(self):
        seen = set()
        for maker, (section, area, ballast) in self.each(16):
            for turn in range(4):
                # A bulkhead anywhere, some of them through corners.
                stand = stand_from(section, maker.area(section), maker.rim(section, 2))
                dry = dry_part(section, stand)
                log = (section, area, ballast)
                size = number(area_of(section)) - number(area_of_stand(section, stand))
                if number(area) >= size:
                    raised(self, Sunk, {"given": area}, loads.flooded, log, stand)
                    seen.add("sunk")
                elif len(dry) > 8:
                    raised(self, InvalidSection, {"given": dry}, loads.flooded, log, stand)
                else:
                    self.assertEqual((dry, area, ballast), loads.flooded(log, stand))
                    self.assertTrue(is_section(dry))
                    seen.add(len(dry) - len(section))
        self.assertLessEqual({"sunk", 1, 0, -1}, seen)

    def test_flooded_by_hand(self):
        # Through two corners, through one, and through none.
        self.assertEqual((((0, 0, 1), (2, 2, 1), (0, 2, 1)), (1, 1), (9, 9, 1)),
                         loads.flooded((raft, (1, 1), (9, 9, 1)), ((0, (0, 1)), (2, (0, 1)))))
        self.assertEqual((((0, 0, 1), (2, 0, 1), (2, 2, 1)), (1, 1), (9, 9, 1)),
                         loads.flooded((raft, (1, 1), (9, 9, 1)), ((2, (0, 1)), (0, (0, 1)))))
        self.assertEqual((((0, 2, 1), (1, 0, 1), (2, 0, 1), (2, 2, 1)), (1, 1), (9, 9, 1)),
                         loads.flooded((raft, (1, 1), (9, 9, 1)), SLANT))
        for area in ((2, 1), (2 * 10 ** 30 + 1, 10 ** 30), (3, 1)):
            raised(self, Sunk, {"given": area}, loads.flooded, (raft, area, (1, 1, 1)), LEVEL)
            raised(self, Sunk, {"given": area}, loads.flooded, stand=LEVEL, log=(raft, area, (1, 1, 1)))
        area = (2 * 10 ** 30 - 1, 10 ** 30)
        self.assertEqual((((0, 1, 1), (2, 1, 1), (2, 2, 1), (0, 2, 1)), area, (1, 1, 1)),
                         loads.flooded((raft, area, (1, 1, 1)), LEVEL))

    def test_flooded_with_too_many_corners(self):
        # A bulkhead that cuts off one corner of eight alone leaves nine.
        stand = ((7, (1, 2)), (0, (1, 2)))
        dry = dry_part(octagon, stand)
        self.assertEqual(9, len(dry))
        self.assertFalse(is_section(dry))
        raised(self, InvalidSection, {"given": dry}, loads.flooded, (octagon, (1, 1), (1, 1, 1)), stand)
        # That it sinks is told first.
        size = area_of(dry)
        raised(self, Sunk, {"given": size}, loads.flooded, (octagon, size, (1, 1, 1)), stand)
        for stand in (((7, (0, 1)), (0, (1, 2))), ((7, (1, 2)), (1, (0, 1))), ((7, (1, 2)), (1, (1, 2)))):
            dry = dry_part(octagon, stand)
            self.assertEqual(8, len(dry))
            self.assertEqual((dry, (1, 1), (1, 1, 1)), loads.flooded((octagon, (1, 1), (1, 1, 1)), stand))

    def floor_word(self, section, ballast, edge):
        """The word by the foot of the ballast's plumb line on the edge's line."""
        (x, y), (u, v), (p, q) = spot(section[edge]), spot(section[(edge + 1) % len(section)]), spot(ballast)
        share = ((u - x) * (p - x) + (v - y) * (q - y)) / ((u - x) ** 2 + (v - y) ** 2)
        if share in (0, 1):
            return "tipping"
        return "left" if share < 0 else "right" if share > 1 else "firm"

    def height_over(self, section, ballast, edge):
        """The square of the ballast's height over the edge's line."""
        (x, y), (u, v), place = spot(section[edge]), spot(section[(edge + 1) % len(section)]), spot(ballast)
        return cross((x, y), (u, v), place) ** 2 / ((u - x) ** 2 + (v - y) ** 2)

    def floors(self):
        """Sections with a ballast strictly inside."""
        maker = Maker(42)
        shapes = ALL + (SLOPE, ((0, 0, 1), (20, 1, 1), (21, 2, 1)), ((0, 0, 1), (1, 0, 1), (9, 4, 1), (8, 4, 1)))
        for section in shapes + tuple(maker.polygon(3 + k % 6) for k in range(30)):
            for ballast in [middle_of(section)] + [maker.inner_point(section, 30) for _ in range(4)]:
                if is_inside(section, ballast):
                    yield section, ballast

    def test_floors(self):
        words, longest, ends = set(), 0, set()
        for section, ballast in self.floors():
            told = [loads.floor_word(section, ballast, k) for k in range(len(section))]
            self.assertEqual([self.floor_word(section, ballast, k) for k in range(len(section))], told)
            words |= set(told)
            firm = tuple(k for k, word in enumerate(told) if word == "firm")
            self.assertEqual(firm, loads.firm_edges(section, ballast))
            heights = [self.height_over(section, ballast, k) for k in range(len(section))]
            for k, high in enumerate(heights):
                if high == min(heights):
                    self.assertIn(k, firm)
                passed = loads.rolls(section, ballast, k)
                self.assertEqual(k, passed[0])
                for here, there in zip(passed, passed[1:]):
                    self.assertIn(told[here], ("left", "right"))
                    self.assertEqual((here + (1 if told[here] == "right" else -1)) % len(section), there)
                    self.assertLess(heights[there], heights[here])
                self.assertIn(told[passed[-1]], ("firm", "tipping"))
                longest = max(longest, len(passed))
                ends.add(told[passed[-1]])
        self.assertLessEqual({"firm", "left", "right"}, words)
        self.assertIn("firm", ends)
        self.assertGreater(longest, 2)

    def test_floors_by_hand(self):
        # Over an end of the edge, beside it, and over it.
        for ballast in ((1, 1, 2), (1, 1, 10 ** 50), (10 ** 50 - 1, 1, 10 ** 50)):
            self.assertEqual("firm", loads.floor_word(square, ballast, 0))
        lean = ((-4, 4, 1), (0, 0, 1), (1, 0, 1), (-3, 4, 1))
        edge = lean.index((0, 0, 1))
        for x, y, w, word in ((-1, 2, 10, "left"), (0, 2, 10, "tipping"), (1, 2, 10, "firm"),
                              (-1, 10 ** 40, 10 ** 41, "left"), (1, 10 ** 40, 10 ** 41, "firm")):
            ballast = point(Fraction(x, w), Fraction(y, w))
            self.assertTrue(is_inside(lean, ballast))
            self.assertEqual(word, loads.floor_word(lean, ballast, edge))
        back = mirrored(lean)
        edge = back.index((-1, 0, 1))
        for x, word in ((-1, "firm"), (0, "tipping"), (1, "right")):
            self.assertEqual(word, loads.floor_word(back, point(Fraction(x, 10), Fraction(1, 5)), edge))
        # To both sides, over several edges, and onto an edge with the ballast over its end.
        self.assertEqual((0, 1), loads.rolls(SLOPE, (6, 1, 3), 0))
        self.assertEqual((2,), loads.rolls(SLOPE, (6, 1, 3), 2))
        self.assertEqual((1, 2), loads.firm_edges(SLOPE, (6, 1, 3)))
        self.assertEqual(((-5, 1, 1), (-1, 0, 1), (0, 0, 1)), mirrored(SLOPE))
        self.assertEqual((1, 0), loads.rolls(mirrored(SLOPE), (-6, 1, 3), 1))
        self.assertEqual(tuple(range(8)), loads.firm_edges(octagon, (3, 3, 2)))
        for edge in range(8):
            self.assertEqual((edge,), loads.rolls(octagon, (3, 3, 2), edge))

    def test_rolls_over_several_edges(self):
        # With the ballast near corner 0 of a round section all edges lead there, from both sides.
        spots = [(0, 0), (8, -5), (18, -6), (27, -2), (32, 6), (28, 16), (18, 21), (6, 15)]
        section = polygon_of(tuple((x, y, 1) for x, y in spots))
        self.assertEqual(8, len(section))
        ballast = (1, 1, 4)
        self.assertTrue(is_inside(section, ballast))
        told = [loads.rolls(section, ballast, k) for k in range(8)]
        self.assertEqual([(0,), (1, 0), (2, 1, 0), (3, 2, 1, 0)], told[:4])
        self.assertEqual([(7,), (6, 7), (5, 6, 7)], told[:4:-1])
        self.assertEqual((4,), told[4])
        self.assertEqual((0, 4, 7), loads.firm_edges(section, ballast))
        back = [tuple((7 - edge) % 8 for edge in passed) for passed in told]
        there, (x, y, w) = mirrored(section), ballast
        first = there.index((0, 0, 1))
        for edge, passed in enumerate(back):
            passed = tuple((first + k) % 8 for k in passed)
            self.assertEqual(passed, loads.rolls(there, (-x, y, w), passed[0]))

    def test_rolls_that_end_on_a_tipping_edge(self):
        # Onto the edge from (1, 0) to (2, 1): the ballast is over (2, 1) then.
        section, ballast = ((0, 0, 1), (1, 0, 1), (2, 1, 1), (2, 3, 1), (0, 3, 1)), (3, 3, 2)
        self.assertEqual(("right", "tipping"), tuple(loads.floor_word(section, ballast, k) for k in (0, 1)))
        self.assertEqual((0, 1), loads.rolls(section, ballast, 0))
        self.assertEqual((1,), loads.rolls(section, ballast, 1))
        # The same to the left, onto the edge from (-2, 1) to (-1, 0).
        there = mirrored(section)
        self.assertEqual(((-2, 1, 1), (-1, 0, 1), (0, 0, 1)), there[:3])
        self.assertEqual(("tipping", "left"), tuple(loads.floor_word(there, (-3, 3, 2), k) for k in (0, 1)))
        self.assertEqual((1, 0), loads.rolls(there, (-3, 3, 2), 1))
        # As little beside as one likes it stands, or rolls on.
        for step, passed in ((-1, (0, 1)), (1, (0, 1, 2))):
            self.assertEqual(passed, loads.rolls(section, plus(ballast, (0, step, 10 ** 40)), 0))

    def test_floors_moved_and_turned(self):
        way = (10 ** 40, -7, 3)
        for section, ballast in list(self.floors())[::5]:
            firm = loads.firm_edges(section, ballast)
            self.assertEqual(firm, loads.firm_edges(moved(section, way), plus(ballast, way)))
            self.assertEqual(firm, loads.firm_edges(grown(section, (1, 10 ** 9)), times(ballast, (1, 10 ** 9))))
            there = turned(section)
            shift = there.index(quarter(section[0]))
            self.assertEqual(tuple(sorted((k + shift) % len(section) for k in firm)),
                             loads.firm_edges(there, quarter(ballast)))

    def test_words_behind_a_bulkhead(self):
        # The dry part floats by itself: its stands are those of a section of its own.
        log = loads.flooded((raft, (1, 2), (1, 1, 1)), ((0, (3, 4)), (2, (1, 4))))
        stand = stand_from(log[0], log[1], (3, (1, 2)))
        self.assertEqual(reckoning.word(reckoning.lever(log[0], log[2], stand)), word_at(log[0], log[2], stand))
        a, b, h = ballast_line(log[0], stand)
        self.assertEqual(word_at(log[0], log[2], stand) == "rest", a + b == h)

    def test_great_numbers(self):
        great = 10 ** 399 + 9
        section = ((0, 0, 1), (great, 0, 1), (great, great // 2, 1), (0, great, 1))
        log = (section, (great, 3), (1, great, 7))
        told = loads.loaded(log, (-1, great), (great, 1, great - 1))
        self.assertEqual(log, loads.loaded(told, (1, great), (great, 1, great - 1)))
        self.assertEqual(minus(log[2], loads.shifted(log, (1, 3), (0, 0, 1), (great, 0, 1))[2]), (-1, 0, 1))

    def test_arguments(self):
        log, point_of = (InvalidLog, wrong.logs(beam)), (InvalidPoint, wrong.POINTS)
        weight, deck = (InvalidFraction, wrong.FRACTIONS), (InvalidPolygon, wrong.POLYGONS)
        told = {"log": beam, "weight": (1, 4), "place": (9, -9, 2)}
        check_arguments(self, loads.loaded, told, {"log": log, "weight": weight, "place": point_of})
        check_arguments(self, loads.shifted, {**told, "other": (0, 0, 1)},
                        {"log": log, "weight": weight, "place": point_of, "other": point_of})
        check_arguments(self, loads.lot_loaded, {"log": beam, "weight": (-1, 4), "deck": raft},
                        {"log": log, "weight": weight, "deck": deck})
        stand = (InvalidStand, wrong.stands(square))
        check_arguments(self, loads.balancing_part, {"log": beam, "stand": SLANT, "deck": raft},
                        {"log": log, "stand": stand, "deck": deck})
        check_arguments(self, loads.flooded, {"log": (square, (1, 8), (1, 1, 2)), "stand": LEVEL},
                        {"log": log, "stand": stand})
        three = {"section": (InvalidSection, wrong.SECTIONS), "ballast": point_of,
                 "edge": (InvalidIndex, wrong.indexes(4))}
        for function in (loads.floor_word, loads.rolls):
            for edge in (0, 3):
                check_arguments(self, function, {"section": SQUARE, "ballast": (1, 1, 2), "edge": edge}, three)
        check_arguments(self, loads.firm_edges, {"section": SQUARE, "ballast": (1, 1, 2)},
                        {"section": three["section"], "ballast": point_of})

    def test_ballast_that_is_not_inside(self):
        tiny = 10 ** 60
        outside = ((0, 0, 1), (2, 1, 1), (1, 2, 1), (-1, 1, 1), (3, 1, 1), (1, -1, tiny), (2 * tiny + 1, tiny, tiny))
        for ballast in outside:
            for function, more in ((loads.floor_word, (0,)), (loads.rolls, (0,)), (loads.firm_edges, ())):
                raised(self, NotInside, {"given": ballast}, function, SQUARE, ballast, *more)
                raised(self, InvalidSection, {"given": None}, function, None, ballast, *more)
                if more:
                    # What is told of the ballast comes ahead of what is told of the edge.
                    raised(self, NotInside, {"given": ballast}, function, SQUARE, ballast, 4)
                    raised(self, InvalidIndex, {"given": 4}, function, SQUARE, (1, 1, tiny), 4)
        self.assertEqual(rim_of(SQUARE, (2, 1, 1)), (1, (1, 2)))
        self.assertEqual((2, 1, 1), on_rim(SQUARE, (1, (1, 2))))

    def test_what_is_told_last(self):
        raised(self, InvalidPoint, {"given": None}, loads.loaded, LOG, (2, 1), None)
        raised(self, InvalidPolygon, {"given": ()}, loads.lot_loaded, LOG, (-2, 1), ())
        raised(self, InvalidPolygon, {"given": None}, loads.balancing_part, LOG, LEVEL, None)
        raised(self, InvalidStand, {"given": None}, loads.flooded, (raft, (3, 1), (1, 1, 1)), None)


if __name__ == "__main__":
    unittest.main()
