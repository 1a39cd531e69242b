"""The whole program: answers of different modules that speak of the same thing agree."""

import unittest
from fractions import Fraction

from hullrests.certificates import certify_level, certify_notes, certify_pose, certify_rests, certify_trap
from hullrests.certificates import certify_turning, certify_wetness
from hullrests.checker import accepts
from hullrests.consoles import Console
from hullrests.cuts import area_below, area_of_stand, dry_part, ends_of, height_of, heights, is_stand, line_at, line_through
from hullrests.cuts import up_of, wet_corners, wet_part
from hullrests.draughts import firmness_profile, is_always_level, loading_profile, profile_sign, profile_tale
from hullrests.draughts import turning_profile, words_at_up
from hullrests.drypoints import greatest_below, is_vented, least_below, stand_with, wet_tale, wet_words, wetness
from hullrests.errors import Broken, HullError, Sunk
from hullrests.heels import corner_signs, heel_between, heel_comes_to, heel_piece, heel_word, share_near, stand_at
from hullrests.levers import compare, lever, middle_below, rise, word_at
from hullrests.loads import balancing_part, firm_edges, flooded, loaded, lot_loaded, shifted
from hullrests.lots import can_turn, firm_for_all, is_trap, low_part, meets_metacentres, resting_part, turned_at
from hullrests.lots import words_at, words_on
from hullrests.metacentres import ballast_for, ballast_line, firmness, metacentre
from hullrests.notes import fitting_ballast, fitting_part, keeps, status_of, tells_all, words_left
from hullrests.points import between, inner, minus, quarter
from hullrests.rests import comes_to, has_one_pose, hold, kind_of, near, rest_at, rests
from hullrests.righting import righting_row, righting_tale
from hullrests.rows import how_many, sign_tale, worth
from hullrests.sections import area_of, grown, holds, is_inside, middle_of, moved, on_rim, rim_of
from hullrests.stands import corner_stands, is_on_arc, piece_of, pieces, right_share, stand_from, stand_to, stretches
from hullrests.workshops import Workshop
from tests.reckoning import Maker, number, pair, sign, told_once, word
from tests.shapes import ALL

FINE = 10 ** 12
ORDER = ("left", "rest", "right")
SIGNS = {1: "left", 0: "rest", -1: "right"}
FAR, MUCH, LITTLE = (10 ** 60, -3 * 10 ** 61, 7), (10 ** 40, 3), (3, 10 ** 40)


class WholeTest(unittest.TestCase):
    def sections(self, seed, many):
        """A maker and drawn sections, some of them far away, very large or very small."""
        maker = Maker(seed)
        changes = (lambda each: each, lambda each: each, lambda each: moved(each, FAR), lambda each: grown(each, MUCH),
                   lambda each: grown(each, LITTLE))
        for k, section in enumerate(ALL + tuple(maker.polygon(3 + k % 6) for k in range(many))):
            yield maker, changes[k % 5](section)

    def stands(self, maker, section):
        """Stands of a section: one with an end at a corner, and others."""
        area = maker.area(section)
        for rim in ((maker.random.randrange(len(section)), (0, 1)), maker.rim(section)):
            yield area, stand_from(section, area, rim)
            yield area, stand_to(section, area, rim)

    def ballasts(self, maker, section, stand):
        """Ballasts: inside, at a corner, at the metacentre, and with the stand as a rest that is firm, and tipping."""
        return (maker.inner_point(section), section[-1], metacentre(section, stand), ballast_for(section, stand, (1, 5)),
                ballast_for(section, stand, (-1, 5)), maker.point())

    def test_at_one_stand(self):
        for maker, section in self.sections(91, 10):
            for area, stand in self.stands(maker, section):
                up, left = up_of(section, stand), stand[0]
                for ballast in self.ballasts(maker, section, stand):
                    log, told = (section, area, ballast), word_at(section, ballast, stand)
                    self.assertEqual(word(number(lever(section, ballast, stand))), told)
                    self.assertEqual((told,), words_at(section, stand, (ballast,)))
                    self.assertEqual((told,), words_on(section, area, (ballast,), (left, left)))
                    self.assertEqual(told, heel_word(log, up))
                    index = piece_of(section, area, left)
                    self.assertEqual(SIGNS[sign(worth(righting_row(log, index), left[1])[0])], told)
                    height = height_of(up, ends_of(section, stand)[0])
                    self.assertEqual(SIGNS[profile_sign(turning_profile(section, up, ballast), height)], told)
                    firm = firmness(section, ballast, stand)
                    self.assertEqual(sign(firm[0]), profile_sign(firmness_profile(section, up, ballast), height))
                    a, b, h = ballast_line(section, stand)
                    self.assertEqual(SIGNS[sign(h * ballast[2] - a * ballast[0] - b * ballast[1])], told)
                    for saying in ORDER:
                        self.assertIs(saying == told, keeps(section, ballast, (saying, stand)))
                    self.holds_of_kind(log, stand, told, firm)
                    shop = Workshop()
                    shop.put("log", log)
                    edge, (n, m) = left
                    self.assertEqual(told, Console(shop).say(f"word log: {edge} {n}/{m}"))
                    for saying in ("left", "right"):
                        claim, paper = certify_turning(log, (left, left), saying)
                        self.assertEqual(("turned", stand) if saying == told else ("unturned", ()), (claim[0], paper))
                    self.assertEqual((word_at(section, ballast, stand), "same"), (told, compare(
                        section, ballast, stand, stand)))

    def holds_of_kind(self, log, stand, told, firm):
        """Holds that all tell the same of a stand as a rest."""
        section, area, ballast = log
        kind, index, up = kind_of(log, stand), rest_at(log, stand), up_of(section, stand)
        self.assertEqual([told == "rest"] * 2, [kind is not None, index is not None])
        for saying in ("firm", "tipping", "sliding"):
            self.assertIs(saying == kind, keeps(section, ballast, (saying, stand)))
        self.assertEqual(comes_to(log, stand), heel_comes_to(log, up))
        before, behind = heel_between(log, up)
        if kind is None:
            self.assertEqual(before if told == "left" else behind, comes_to(log, stand))
            self.assertIsNone(resting_part(section, stand, (ballast,)))
            return
        self.assertEqual((index, index, index), (before, behind, comes_to(log, stand)))
        self.assertEqual(kind, rests(log)[index])
        self.assertEqual((ballast,), resting_part(section, stand, (ballast,)))
        self.assertEqual((ballast,) if firm[0] >= 0 else None, low_part(section, stand, (ballast,)))
        if firm[0] != 0:
            self.assertEqual("firm" if firm[0] > 0 else "tipping", kind)
        edge, (n, m) = stand[0]
        self.assertEqual((edge, n, True), near(log, index, m))

    def test_where_the_water_line_lies(self):
        for maker, section in self.sections(92, 10):
            for area, stand in self.stands(maker, section):
                up, ends = up_of(section, stand), ends_of(section, stand)
                height = height_of(up, ends[0])
                self.assertEqual((height, area), (height_of(up, ends[1]), area_below(section, up, height)))
                self.assertEqual([stand] * 4, [line_at(section, up, height), line_through(section, up, ends[1]),
                                               stand_at(section, area, up), stand_from(section, area, stand[0])])
                self.assertEqual((stand, area), (stand_to(section, area, stand[1]), area_of_stand(section, stand)))
                self.assertEqual(piece_of(section, area, stand[0]), heel_piece(section, area, up))
                edge, (n, m) = stand[0]
                self.assertEqual((edge, n, True), share_near(section, area, up, m))
                # Corners under the water line are wet, those above it dry.
                words = {-1: "wet", 0: "rim", 1: "dry"}
                signs = corner_signs(section, area, up)
                self.assertEqual([words[each] for each in signs], [wetness(section, stand, each) for each in section])
                self.assertEqual(wet_corners(section, stand), tuple(k for k, each in enumerate(signs) if each < 0))
                parts = wet_part(section, stand), dry_part(section, stand)
                self.assertEqual(number(area_of(section)), sum(number(area_of(part)) for part in parts))
                self.assertEqual(middle_of(parts[0]), middle_below(section, stand))
                k, l, m, n = right_share(section, area, piece_of(section, area, stand[0]))
                x = number(stand[0][1])
                self.assertEqual(number(stand[1][1]), (k + l * x) / (m + n * x))
                self.assertTrue(is_stand(section, stand) and is_stand(section, stand[::-1]))
                low, high = heights(section, up)
                self.assertTrue(number(low) < number(height) < number(high))
                self.assertEqual([rim_of(section, end) for end in ends], list(stand))

    def test_all_round(self):
        for maker, section in self.sections(93, 14):
            for area, stand in list(self.stands(maker, section))[:2]:
                for ballast in self.ballasts(maker, section, stand)[::2]:
                    self.holds_round((section, area, ballast), maker)

    def holds_round(self, log, maker):
        """Holds what all rests of a log tell together."""
        section, area, ballast = log
        kinds, tale = rests(log), righting_tale(log)
        self.assertEqual(len(kinds), tale.count("rest"))
        rows = [(righting_row(log, k), low, high) for k, (edge, low, high, opposite) in enumerate(pieces(section, area))]
        counted = sum(how_many(row, low, high) - (worth(row, high)[0] == 0) for row, low, high in rows)
        self.assertEqual(len(kinds), counted)
        self.assertEqual(words_on(section, area, (ballast,), None), tuple(each for each in ORDER if each in tale))
        self.assertIs(kinds.count("firm") == 1 and "sliding" not in kinds, has_one_pose(log))
        self.assertEqual("one pose" if has_one_pose(log) else "several poses", certify_pose(log)[0][0])
        self.assertEqual((("rests", log, kinds), ()), certify_rests(log))
        shop = Workshop()
        shop.put("log", log)
        self.assertEqual(" ".join(kinds), Console(shop).say("rests log"))
        self.assertIs(has_one_pose(log), self.is_made(shop, ("one pose", "log")))
        came = set()
        for other in corner_stands(section, area) + tuple(stand_from(section, area, maker.rim(section)) for _ in range(8)):
            index = comes_to(log, other)
            told = word_at(section, ballast, other)
            if told != "rest":
                came.add(index)
                self.assertNotEqual("tipping", kinds[index])
                if kinds[index] == "firm":
                    self.assertIn(heel_between(log, up_of(section, other)), (
                        (hold(log, index)[0], index), (index, hold(log, index)[1])))
        if has_one_pose(log):
            self.assertLessEqual(came, {kinds.index("firm")})
        if not meets_metacentres(section, area, (ballast,), None):
            self.assertEqual(kinds.count("firm"), firm_for_all(section, area, (ballast,)))
            self.assertEqual((kinds.count("firm"), 0), (kinds.count("tipping"), kinds.count("sliding")))
        else:
            self.assertIsNone(firm_for_all(section, area, (ballast,)))

    def is_made(self, shop, wish):
        """Whether a workshop takes a wish; it is lifted again."""
        try:
            shop.wish(wish)
        except Broken as error:
            self.assertEqual(len(shop.wishes), error.index)
            return False
        shop.undo()
        return True

    def test_along_an_arc(self):
        for maker, section in self.sections(94, 14):
            area = maker.area(section)
            for turn in range(4):
                arc, lot = maker.arc(section), (maker.inner_point(section),) if turn % 2 else maker.polygon(1 + turn, 3)
                words = words_on(section, area, lot, arc)
                each = [words_on(section, area, (corner,), arc) for corner in lot]
                self.assertEqual([word in words for word in ("left", "right")],
                                 [any(word in told for told in each) for word in ("left", "right")])
                for told in ("left", "right"):
                    found = turned_at(section, area, lot, arc, told)
                    self.assertIs(told in words, found is not None)
                    if found is not None:
                        self.assertEqual(told, word_at(section, found[1], found[0]))
                        self.assertTrue(is_on_arc(section, arc, found[0][0]) and found[1] in lot)
                    if len(lot) == 1:
                        self.assertIs(words == (told,), can_turn(section, area, lot, arc, told))
                        log = (section, area, lot[0])
                        claim, paper = certify_turning(log, arc, told)
                        self.assertEqual("turned" if told in words else "unturned", claim[0])
                        self.assertTrue(accepts(claim, paper))
                        shop = Workshop()
                        shop.put("log", log)
                        self.assertIs(told not in words, self.is_made(shop, ("unturned", "log", arc, told)))
                        signs = [sign_tale(righting_row(log, k), low, high) for k, low, high in stretches(section, area, arc)]
                        self.assertIs(told in words, any({"left": 1, "right": -1}[told] in part for part in signs))
                self.holds_of_trap(section, area, lot, arc, maker)

    def holds_of_trap(self, section, area, lot, arc, maker):
        """Holds that all tell the same of a trap, and that a log that is let go in it stays there."""
        shop = Workshop()
        shop.put("log", (section, area, maker.point()))
        told = is_trap(section, area, lot, arc)
        claim, paper = certify_trap(section, area, lot, arc)
        self.assertEqual("trap" if told else "no trap", claim[0])
        self.assertTrue(accepts(claim, paper))
        self.assertIs(told, self.is_made(shop, ("trap", "log", arc, lot)))
        if not told or arc is None:
            return
        for ballast in lot + (maker.inner_point(lot),):
            log = (section, area, ballast)
            inside = [k for k in range(len(rests(log))) if self.may_be_on(section, arc, near(log, k, FINE))]
            self.assertGreater(len(inside), 0)
            for left in arc + tuple(rim for rim in (maker.rim(section) for _ in range(9)) if is_on_arc(section, arc, rim)):
                self.assertIn(comes_to(log, stand_from(section, area, left)), inside)

    def may_be_on(self, section, arc, place):
        """Whether a rest, told by `near`, may be on the arc."""
        edge, n, is_just = place
        first = (edge, pair(Fraction(n, FINE)))
        last = (edge, pair(Fraction(n + 1, FINE))) if n + 1 < FINE else ((edge + 1) % len(section), (0, 1))
        if is_just:
            return is_on_arc(section, arc, first)
        return any(is_on_arc(section, arc, rim) for rim in (first, last)) or is_on_arc(section, (first, last), arc[0])

    def test_points(self):
        for maker, section in self.sections(95, 12):
            area = maker.area(section)
            for point in (maker.inner_point(section), middle_of(section), section[1], maker.point()):
                words, tale = wet_words(section, area, point, None), wet_tale(section, area, point, None)
                self.assertEqual(words, tuple(each for each in ("dry", "rim", "wet") if each in tale))
                self.assertIs(words == ("dry",), is_vented(section, area, (point,), None))
                if is_inside(section, point):
                    least, most = (number(told(section, point)[0]) for told in (least_below, greatest_below))
                    self.assertEqual((most > number(area), least <= number(area) <= most, least < number(area)),
                                     tuple(each in words for each in ("dry", "rim", "wet")))
                    self.assertEqual(number(area_of(section)), least + most)
                    for told in (least_below, greatest_below):
                        size, stand = told(section, point)
                        self.assertEqual((size, "rim"), (area_of_stand(section, stand), wetness(section, stand, point)))
                for told in ("dry", "wet"):
                    for arc in (None, maker.arc(section)):
                        came = wet_words(section, area, point, arc)
                        stand = stand_with(section, area, point, arc, told)
                        self.assertIs(told in came, stand is not None)
                        if stand is not None:
                            self.assertEqual(told, wetness(section, stand, point))
                        claim, paper = certify_wetness(section, area, point, arc, told)
                        self.assertEqual("seen" if told in came else "unseen", claim[0])
                        self.assertTrue(accepts(claim, paper))
                    shop = Workshop()
                    shop.put("log", (section, area, maker.point()))
                    self.assertIs(told not in words, self.is_made(shop, ("unseen", "log", point, told)))

    def test_all_draughts(self):
        for maker, section in self.sections(96, 10):
            for area, stand in list(self.stands(maker, section))[1:3]:
                up, (low, high) = up_of(section, stand), heights(section, up_of(section, stand))
                for ballast in self.ballasts(maker, section, stand)[:4]:
                    profile = turning_profile(section, up, ballast)
                    tale = profile_tale(profile)
                    self.assertEqual(tuple(SIGNS[each] for each in (1, 0, -1) if each in tale),
                                     words_at_up(section, up, (ballast,)))
                    is_level = is_always_level(section, up, ballast)
                    self.assertIs(tale == (0,), is_level)
                    claim, paper = certify_level(section, up, ballast)
                    self.assertEqual("level" if is_level else "not level", claim[0])
                    self.assertTrue(accepts(claim, paper))
                    shop = Workshop()
                    shop.put("log", (section, area, ballast))
                    self.assertIs(is_level, self.is_made(shop, ("level", "log", up)))
                    signs = []
                    for part in range(1, 6):
                        height = pair(number(low) + (number(high) - number(low)) * Fraction(part, 6))
                        size = area_below(section, up, height)
                        signs.append(profile_sign(profile, height))
                        self.assertEqual(SIGNS[signs[-1]], heel_word((section, size, ballast), up))
                        self.assertEqual(line_at(section, up, height), stand_at(section, size, up))
                    left_over = iter(tale)
                    self.assertTrue(all(each in left_over for each in told_once(signs)))

    def test_loads(self):
        for maker, section in self.sections(97, 10):
            for area, stand in list(self.stands(maker, section))[:2]:
                size = number(area_of(section))
                log = (section, pair(size * Fraction(maker.random.randint(1, 12), 13)), maker.inner_point(section))
                weight, deck = pair(number(area) - number(log[1])), (section, (section[0],), section[:1] + (section[2],))[
                    maker.random.randrange(3)]
                if weight == (0, 1):
                    continue
                # With the load the log has the stand's area: its words there are those of all ballast it can have.
                there, lot = lot_loaded(log, weight, deck)
                self.assertEqual(area, there)
                words = [word_at(section, loaded(log, weight, corner)[2], stand) for corner in deck]
                part = balancing_part(log, stand, deck)
                self.assertEqual("rest" in words_at(section, stand, lot), part is not None)
                self.assertEqual([each in words for each in ("left", "right")],
                                 [each in words_at(section, stand, lot) for each in ("left", "right")])
                resting = resting_part(section, stand, lot)
                self.assertEqual(resting, None if part is None else lot_loaded(log, weight, part)[1])
                here, other = maker.inner_point(section), maker.inner_point(section)
                moved_on = shifted(loaded(log, weight, here), weight, here, other)
                self.assertEqual(loaded(log, weight, other), moved_on)
                up = up_of(section, stand)
                start = stand_at(section, log[1], up)
                if start is not None and weight[0] > 0:
                    base, height = (height_of(up, ends_of(section, each)[0]) for each in (start, stand))
                    profile = loading_profile(section, up, base, log[2], other)
                    self.assertEqual(SIGNS[profile_sign(profile, height)],
                                     word_at(section, loaded(log, weight, other)[2], stand))

    def test_flooded_logs(self):
        for maker, section in self.sections(98, 8):
            for size, stand in self.stands(maker, section):
                log = (section, maker.area(section), maker.inner_point(section))
                try:
                    part, area, ballast = flooded(log, stand)
                except HullError as error:
                    if error.__class__ is Sunk:
                        self.assertLessEqual(number(area_of(section)) - number(size), number(log[1]))
                    continue
                self.assertEqual((log[1:], dry_part(section, stand)), ((area, ballast), part))
                self.holds_round((part, area, ballast), maker)

    def test_floors(self):
        # On an edge with the water gone: what is firm there has its ballast over the edge.
        for maker, section in self.sections(99, 10):
            ballast = middle_of(section)
            for k in firm_edges(section, ballast):
                here, there = section[k], section[(k + 1) % len(section)]
                way, along = minus(there, here), minus(ballast, here)
                self.assertTrue(0 < number(inner(way, along)) < number(inner(way, way)))
                foot = between(here, there, pair(number(inner(way, along)) / number(inner(way, way))))
                self.assertEqual(k, rim_of(section, foot)[0])
                self.assertEqual((0, 1), inner(minus(ballast, foot), way))

    def test_notes(self):
        for maker, section in self.sections(100, 10):
            told = list(self.stands(maker, section))[::2]
            for area, stand in told:
                lot = section if maker.random.random() < 0.5 else (maker.inner_point(section), )
                self.assertEqual(words_at(section, stand, lot), words_left(section, lot, (), stand))
                self.assertEqual(resting_part(section, stand, lot), fitting_part(section, lot, (("rest", stand),)))
                for saying in ORDER:
                    part = fitting_part(section, lot, ((saying, stand),))
                    self.assertIs(saying in words_at(section, stand, lot), part is not None)
                    status = status_of(section, lot, (), (saying, stand))
                    words = words_at(section, stand, lot)
                    self.assertEqual("never" if saying not in words else "sure" if words == (saying,) else "open", status)
                low, firm = low_part(section, stand, lot), fitting_part(section, lot, (("firm", stand),))
                if low is not None and low != (metacentre(section, stand),):
                    self.assertEqual(low, firm)
                notes = tuple((maker.random.choice(ORDER + ("firm",)), each) for size, each in told)
                claim, paper = certify_notes(section, lot, notes)
                ballast = fitting_ballast(section, lot, notes)
                self.assertEqual("at odds" if ballast is None else "fits", claim[0])
                self.assertTrue(accepts(claim, paper))
                if ballast is not None:
                    self.assertTrue(holds(lot, ballast) and all(keeps(section, ballast, note) for note in notes))
                    self.assertTrue(tells_all(section, lot, notes, notes[:1]))
                    for saying, each in notes:
                        self.assertEqual("sure", status_of(section, lot, notes, (saying, each)))
                        self.assertEqual((saying if saying in ORDER else "rest",), words_left(section, lot, notes, each))

    def test_true_heights_and_rests(self):
        # From a rest to the next one the true height of the ballast falls, or grows, all the way.
        for maker, section in self.sections(101, 6):
            area = maker.area(section)
            log = (section, area, maker.inner_point(section))
            kinds = rests(log)
            for k, kind in enumerate(kinds):
                edge, n, is_just = near(log, k, FINE)
                after = near(log, (k + 1) % len(kinds), FINE)
                if (edge, n) == after[:2] or n + 1 == FINE:
                    continue
                first = (edge, pair(Fraction(n + (not is_just), FINE)))
                spans = stretches(section, area, (first, (after[0], pair(Fraction(after[1], FINE)))))
                lefts = []
                for index, low, high in spans:
                    middle = pair((number(low) + number(high)) / 2)
                    lefts.append(stand_from(section, area, (pieces(section, area)[index][0], middle)))
                words = {word_at(section, log[2], each) for each in lefts}
                self.assertEqual(1, len(words))
                for here, there in zip(lefts, lefts[1:]):
                    self.assertEqual("higher" if words == {"right"} else "lower", compare(section, log[2], here, there))
                    # The true height has the sign of the rise, whatever the length of the water line.
                    heights_of = [sign(rise(section, log[2], each)[0]) for each in (here, there)]
                    self.assertTrue(heights_of == sorted(heights_of, reverse=words == {"right"}))

    def test_ways_of_water_lines(self):
        # The up is the water line's way turned a quarter.
        for maker, section in self.sections(102, 6):
            for area, stand in self.stands(maker, section):
                left, right = (on_rim(section, rim) for rim in stand)
                x, y, w = quarter(minus(right, left))
                c, s = up_of(section, stand)
                self.assertEqual((0, True), (c * y - s * x, c * x + s * y > 0))


if __name__ == "__main__":
    unittest.main()
