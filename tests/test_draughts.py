"""All draughts at one heel, beside the tests' own reckoning by triangles at single heights."""

import unittest
from fractions import Fraction

from hullrests import draughts
from hullrests.cuts import line_at
from hullrests.errors import (InvalidDirection, InvalidFraction, InvalidIndex, InvalidNumber, InvalidPoint,
                              InvalidPolygon, InvalidSection, InvalidWord, OffSection)
from hullrests.levers import word_at
from hullrests.metacentres import firmness
from hullrests.rows import is_row, shortest
from hullrests.sections import polygon_of
from tests import reckoning, wrong
from tests.reckoning import Maker, below, height, number, pair, point, sign, spot, told_once
from tests.shapes import ALL, diamond, half, hexagon, house, kite, octagon, raft, sail, square
from tests.wrong import check_arguments, raised

FINE = 10 ** 9
WORDS = ("left", "rest", "right")
SIGNS = {"left": 1, "rest": 0, "right": -1}
SECTION = (InvalidSection, wrong.SECTIONS)
UP = (InvalidDirection, wrong.DIRECTIONS)
POINT = (InvalidPoint, wrong.POINTS)
HEIGHT = (InvalidFraction, wrong.FRACTIONS)
# The middle of the water line goes to one side, then back: at the height 4 it is above that of the water.
LEAN = ((0, 0, 1), (6, 3, 1), (2, 5, 1), (1, 4, 1))
BENT = ((0, 1, 1), (4, 0, 1), (6, 2, 1), (5, 3, 1), (2, 5, 1))
# Profiles by hand: 0 where two triples meet, and touching it; changing there; touching; noughts; on both sides of 0.
MEET = (((0, 1), (1, 1), (1, -1)), ((1, 1), (2, 1), (-1, 1)))
CROSS = (((0, 1), (1, 1), (1, -1)), ((1, 1), (3, 2), (2, -2)), ((3, 2), (2, 1), (-1,)))
TOUCH = (((0, 1), (2, 1), (1, -2, 1)),)
NOUGHTS = (((0, 1), (1, 1), (0, -1, 1)), ((1, 1), (4, 3), ()), ((4, 3), (5, 3), ()), ((5, 3), (7, 3), (-5, 3)))
AROUND = (((-7, 3), (-1, 1), (-5, -3)), ((-1, 1), (1, 2), (-2, 0, 4)))


def value(row, at):
    """The worth of a row."""
    return sum(n * at ** k for k, n in enumerate(row))


def marks(section, up):
    """The unlike heights of the corners, ascending."""
    return sorted({height(up, spot(corner)) for corner in section})


def ups_of(maker, section):
    """Ups that are upright and skew, and those along an edge and across it."""
    k = maker.random.randrange(len(section))
    (x, y), (u, v) = spot(section[k - 1]), spot(section[k])
    c, s, w = point(u - x, v - y)
    many = next(many for many in range(max(abs(c), abs(s)), 0, -1) if c % many == s % many == 0)
    along = (c // many, s // many)
    return ((0, 1), (-1, 0), along, (-along[1], along[0]), (3, -2), (-5, -7))


def turning(section, up, ballast, level):
    """The inner product of e and A * (B less G), by triangles."""
    shape, e = below(section, up, level), (up[1], -up[0])
    if len(shape) < 3:
        return Fraction(0)
    return sum(a * (height(e, m) - height(e, spot(ballast))) for a, m in reckoning.triangles(shape))


def holding(section, up, ballast, level):
    """The number of [35] for the firmness, by triangles."""
    shape, e = below(section, up, level), (up[1], -up[0])
    size = up[0] ** 2 + up[1] ** 2
    ends = sorted(height(e, place) for place in shape if height(up, place) == level)
    w = (ends[-1] - ends[0]) / size
    moment = 0
    if len(shape) > 2:
        moment = sum(a * (height(up, m) - height(up, spot(ballast))) for a, m in reckoning.triangles(shape))
    return moment + w ** 3 * size ** 2 / Fraction(12)


def loading(section, up, start, ballast, place, level):
    """The number of [38], by triangles."""
    e = (up[1], -up[0])
    first, size = (sum(a for a, m in reckoning.triangles(below(section, up, at))) for at in (start, level))
    weight = first * height(e, spot(ballast)) + (size - first) * height(e, spot(place))
    return turning(section, up, (0, 0, 1), level) - weight


def cases(seed, many=12):
    """A maker, a section, an up and a ballast, in it and off it."""
    maker = Maker(seed)
    for section in ALL + (sail, LEAN, BENT) + tuple(maker.polygon(3 + k % 6) for k in range(many)):
        for up in maker.random.sample(ups_of(maker, section), 2):
            for ballast in (maker.inner_point(section), maker.point()):
                yield maker, section, up, ballast


class DraughtsTest(unittest.TestCase):
    def holds_profile(self, profile, levels, told_at):
        """Holds that the rows are shortest, and are the numbers told but for one factor above 0 in each triple."""
        self.assertEqual([(pair(a), pair(b)) for a, b in zip(levels, levels[1:])], [each[:2] for each in profile])
        for low, high, row in profile:
            self.assertIs(True, is_row(row))
            self.assertEqual(shortest(row), row)
            self.assertLessEqual(len(row), 4)
            factors = set()
            for share in (0, Fraction(1, 10 ** 9), Fraction(1, 3), Fraction(4, 5), 1):
                at = number(low) + share * (number(high) - number(low))
                expected = told_at(at)
                self.assertEqual(sign(expected), sign(value(row, at)))
                if expected != 0:
                    factors.add(value(row, at) / expected)
            self.assertEqual(0 if row == () else 1, len(factors))
            self.assertTrue(all(factor > 0 for factor in factors))

    def holds_tale(self, profile, sign_at):
        """Holds the tale and the changes by the signs at many heights, and at the changes that are told exactly."""
        tale = draughts.profile_tale(profile)
        self.assertEqual(told_once(tale), list(tale))
        starts = [draughts.change_near(profile, k, FINE) for k in range(len(tale))]
        low, high = number(profile[0][0]), number(profile[-1][1])
        self.assertEqual((low * FINE // 1, (low * FINE) % 1 == 0), starts[0])
        self.assertEqual(sorted(starts, key=lambda start: start[0]), starts)
        for k, (n, is_just) in enumerate(starts):
            if k > 0:
                self.assertIn(0, (tale[k - 1], tale[k]))
                self.assertEqual(is_just, sign_at(Fraction(n, FINE)) == 0)
        for step in range(1, 16):
            at = low + Fraction(step, 16) * (high - low)
            ahead = [k for k, (n, is_just) in enumerate(starts) if Fraction(n, FINE) < at or k == 0]
            if Fraction(starts[ahead[-1]][0] + 1, FINE) < at or len(ahead) == 1:
                told = tale[ahead[-1]]
                if len(ahead) < len(tale) and starts[len(ahead)] == (at * FINE, True):
                    told = 0
                self.assertEqual(told, sign_at(at))

    def test_turning_profiles(self):
        for maker, section, up, ballast in cases(41):
            profile = draughts.turning_profile(section, up, ballast)
            self.holds_profile(profile, marks(section, up), lambda at: turning(section, up, ballast, at))
            self.holds_tale(profile, lambda at: sign(turning(section, up, ballast, at)))

    def test_firmness_profiles(self):
        for maker, section, up, ballast in cases(42):
            profile = draughts.firmness_profile(section, up, ballast)
            self.holds_profile(profile, marks(section, up), lambda at: holding(section, up, ballast, at))
            self.holds_tale(profile, lambda at: sign(holding(section, up, ballast, at)))

    def test_loading_profiles(self):
        tiny = Fraction(1, 10 ** 6)
        for maker, section, up, ballast in cases(43, 8):
            levels = marks(section, up)
            place = maker.random.choice((maker.point(), ballast, maker.inner_point(section)))
            between = [levels[0] + share * (levels[-1] - levels[0]) for share in (tiny, Fraction(5, 9), 1 - tiny)]
            start = maker.random.choice(levels[1:-1] + between)
            profile = draughts.loading_profile(section, up, pair(start), ballast, place)
            told = [start] + [at for at in levels if at > start]
            self.holds_profile(profile, told, lambda at: loading(section, up, start, ballast, place, at))
            self.holds_tale(profile, lambda at: sign(loading(section, up, start, ballast, place, at)))
            self.assertEqual(sign(turning(section, up, ballast, start)), draughts.profile_sign(profile, pair(start)))

    def test_signs_at_stands(self):
        for maker, section, up, ballast in cases(44, 8):
            turns = draughts.turning_profile(section, up, ballast)
            holds = draughts.firmness_profile(section, up, ballast)
            levels = marks(section, up)
            shares = (Fraction(1, 10 ** 20), Fraction(2, 7), 1 - Fraction(1, 10 ** 20))
            for at in levels[1:-1] + [levels[0] + share * (levels[-1] - levels[0]) for share in shares]:
                stand = line_at(section, up, pair(at))
                self.assertEqual(SIGNS[word_at(section, ballast, stand)], draughts.profile_sign(turns, pair(at)))
                self.assertEqual(sign(firmness(section, ballast, stand)[0]), draughts.profile_sign(holds, pair(at)))
            for at in (levels[0], levels[-1]):
                self.assertEqual(sign(turning(section, up, ballast, at)), draughts.profile_sign(turns, pair(at)))
            self.assertEqual(0, draughts.profile_sign(turns, pair(levels[0])))
            for off in (levels[0] - Fraction(1, 10 ** 30), levels[-1] + Fraction(1, 10 ** 30), levels[0] - 1):
                raised(self, OffSection, {"given": pair(off)}, draughts.profile_sign, turns, pair(off))

    def test_loading_where_the_ballast_is(self):
        for maker, section, up, ballast in cases(45, 8):
            levels, turns = marks(section, up), draughts.turning_profile(section, up, ballast)
            for start in levels[1:-1]:
                self.assertEqual(tuple(each for each in turns if number(each[0]) >= start),
                                 draughts.loading_profile(section, up, pair(start), ballast, ballast))
            start = (levels[-1] + levels[-2]) / 2
            self.assertEqual(((pair(start),) + turns[-1][1:],),
                             draughts.loading_profile(section, up, pair(start), ballast, ballast))

    def test_loading_by_hand(self):
        for ballast, place, row, tale in (
                ((1, 1, 1), (2, 1, 1), (1, -1), (-1,)), ((1, 1, 1), (1, 9, 1), (), (0,)),
                ((0, 1, 1), (1, 9, 1), (1,), (1,)), ((0, 1, 1), (2, 1, 1), (2, -1), (1,)),
                ((0, 1, 1), (3, 1, 1), (3, -2), (1, 0, -1)), ((1, 0, 2), (9, 0, 5), (13, -8), (1, 0, -1))):
            told = draughts.loading_profile(raft, (0, 1), (1, 1), ballast, place)
            self.assertEqual((((1, 1), (2, 1), row),), told)
            self.assertEqual(tale, draughts.profile_tale(told))
        self.assertEqual((16, False), draughts.change_near(told, 1, 10))
        self.assertEqual((13, True), draughts.change_near(told, 2, 8))
        self.assertEqual(-1, draughts.profile_sign(told, (2, 1)))

    def test_changes_by_hand(self):
        tale = draughts.turning_profile(sail, (0, 1), (3, 2, 2))
        for many in (1, 2, 10, 10 ** 12):
            n, is_just = draughts.change_near(tale, 1, many)
            # (15 - root(33)) / 4 is from n / many on, below (n + 1) / many.
            self.assertIs(False, is_just)
            self.assertTrue((15 * many - 4 * n - 4) ** 2 < 33 * many ** 2 < (15 * many - 4 * n) ** 2)
            self.assertEqual((n, is_just), draughts.change_near(tale, 2, many))
            self.assertEqual((0, True), draughts.change_near(tale, 0, many))

    def test_tales_by_hand(self):
        for profile, tale, changes, signs in (
                (MEET, (1, 0, 1), ((0, True), (3, True), (3, True)), (1, 1, 0, 1, 1)),
                (CROSS, (1, 0, -1), ((0, True), (3, True), (3, True)), (1, 1, 0, -1, -1)),
                (TOUCH, (1, 0, 1), ((0, True), (3, True), (3, True)), (1, 1, 0, 1, 1)),
                (NOUGHTS, (-1, 0, 1), ((0, True), (3, True), (5, True)), (0, -1, 0, 0, 1))):
            self.assertEqual(tale, draughts.profile_tale(profile))
            self.assertEqual(changes, tuple(draughts.change_near(profile, k, 3) for k in range(len(tale))))
            heights = ((0, 1), (1, 2), (1, 1), (3, 2), (2, 1))
            self.assertEqual(signs, tuple(draughts.profile_sign(profile, at) for at in heights))

    def test_changes_below_nought(self):
        profile = (((-7, 3), (-1, 1), (5, 3)), ((-1, 1), (1, 2), (2, -4, -4)))
        self.assertEqual((-1, 0, 1, 0, -1), draughts.profile_tale(profile))
        self.assertEqual([(-7, True), (-5, True), (-5, True), (1, False), (1, False)],
                         [draughts.change_near(profile, k, 3) for k in range(5)])
        self.assertEqual([(-3, False), (-2, False), (-2, False), (0, False), (0, False)],
                         [draughts.change_near(profile, k, 1) for k in range(5)])
        many = 10 ** 12
        self.assertEqual((-7 * many // 3, False), draughts.change_near(profile, 0, many))
        self.assertEqual((-5 * many // 3, False), draughts.change_near(profile, 2, many))
        profile = (((-1, 1), (0, 1), (-1, 0, 2)),)
        for k in (1, 2):
            # - root(1 / 2).
            n, is_just = draughts.change_near(profile, k, many)
            self.assertEqual((False, True), (is_just, 2 * (n + 1) ** 2 < many ** 2 < 2 * n ** 2))
        sunk = tuple((x, y - 9, w) for x, y, w in sail)
        profile = draughts.turning_profile(sunk, (0, 1), (3, 2, 2))
        self.assertEqual([(-90, True), (-67, False), (-67, False)],
                         [draughts.change_near(profile, k, 10) for k in range(3)])
        self.holds_tale(profile, lambda at: sign(turning(sunk, (0, 1), (3, 2, 2), at)))

    def test_single_heights_at_the_ends_are_left_out(self):
        for row, tale in (((0, 1), (1,)), ((0, 2, -1), (1,)), ((2, -1), (1,)), ((), (0,)), ((0, -1, 1), (-1, 0, 1)),
                          ((0, 1, -2, 1), (1, 0, 1)), ((0, -2, 3, -1), (-1, 0, 1))):
            self.assertEqual(tale, draughts.profile_tale((((0, 1), (2, 1), row),)))
            self.assertEqual((0, True), draughts.change_near((((0, 1), (2, 1), row),), 0, 7))
        profile = (((0, 1), (1, 1), ()), ((1, 1), (2, 1), (-1, 1)))
        self.assertEqual((0, 1), draughts.profile_tale(profile))
        self.assertEqual((7, True), draughts.change_near(profile, 1, 7))
        self.assertEqual((1, 0), draughts.profile_tale((((0, 1), (1, 1), (1, -1)), ((1, 1), (2, 1), ()))))
        self.assertEqual((1, 0, -1), draughts.profile_tale((((0, 1), (1, 1), (0, 1)), ((1, 1), (2, 1), (3, -2)))))
        self.assertEqual((0,), draughts.profile_tale((((-3, 1), (1, 1), ()), ((1, 1), (2, 1), ()))))

    def test_long_rows(self):
        # The roots 1 / 13, 2 / 13 .. 12 / 13.
        row = (1,)
        for k in range(1, 13):
            row = tuple(13 * a - k * b for a, b in zip((0,) + row, row + (0,)))
        profile = (((0, 1), (1, 1), row),)
        self.assertEqual((1, 0, -1, 0) * 6 + (1,), draughts.profile_tale(profile))
        for k in range(1, 13):
            self.assertEqual((k, True), draughts.change_near(profile, 2 * k, 13))
            self.assertEqual((100 * k // 13, False), draughts.change_near(profile, 2 * k - 1, 100))

    def test_nought_where_two_triples_meet(self):
        seen = 0
        for maker, section, up, _ in cases(46, 10):
            for level in marks(section, up)[1:-1]:
                ballast = point(*reckoning.middle(below(section, up, level)))
                profile = draughts.turning_profile(section, up, ballast)
                self.assertEqual(0, draughts.profile_sign(profile, pair(level)))
                self.holds_tale(profile, lambda at: sign(turning(section, up, ballast, at)))
                self.assertIn(0, draughts.profile_tale(profile))
                seen += draughts.profile_tale(profile).count(0) == 1
        self.assertGreater(seen, 20)

    def test_touching(self):
        for section, ballast, level, tale, k in ((LEAN, (5, 0, 2), 4, (-1, 0, -1), 1),
                                                 (BENT, (3, 0, 1), 3, (1, 0, -1, 0, -1), 3)):
            profile = draughts.turning_profile(section, (0, 1), ballast)
            self.assertEqual(tale, draughts.profile_tale(profile))
            self.assertEqual(0, draughts.profile_sign(profile, (level, 1)))
            for index in (k, k + 1):
                self.assertEqual((level * 7, True), draughts.change_near(profile, index, 7))
            self.holds_tale(profile, lambda at: sign(turning(section, (0, 1), ballast, at)))
            # A ballast a little beside makes two changes of it, or none.
            many = set()
            for beside in (-1, 1):
                near = point(Fraction(ballast[0], ballast[2]) + Fraction(beside, 10 ** 60), 0)
                many.add(len(draughts.profile_tale(draughts.turning_profile(section, (0, 1), near))) - len(tale))
            self.assertEqual({-2, 2}, many)

    def test_always_level(self):
        for section, up, ballast in ((raft, (0, 1), (1, 7, 1)), (raft, (-1, 0), (5, 1, 1)), (raft, (1, 1), (3, 3, 1)),
                                     (sail, (1, 1), (-2, -2, 1)), (sail, (-1, -1), (1, 1, 1)),
                                     (house, (0, -1), (2, 0, 1)),
                                     (hexagon, (1, 0), (9, 0, 1)), (octagon, (-1, 1), (0, 3, 1)),
                                     (diamond, (1, 0), (4, 0, 1)), (half, (1, 1), (2, 2, 7))):
            self.assertIs(True, draughts.is_always_level(section, up, ballast))
            for low, high, row in draughts.turning_profile(section, up, ballast):
                self.assertEqual((), row)
            x, y = spot(ballast)
            beside = point(x + Fraction(up[1], 10 ** 60), y - Fraction(up[0], 10 ** 60))
            self.assertIs(False, draughts.is_always_level(section, up, beside))
        # The middles of all water lines, or the ballast, or a single corner: just one of them is a little beside.
        near = ((0, 0, 1), (4, 0, 1), (4 * 10 ** 60, 3 * 10 ** 60 + 1, 10 ** 60), (2, 5, 1), (0, 3, 1))
        self.assertIs(False, draughts.is_always_level(near, (0, 1), (2, 0, 1)))
        self.assertIs(False, draughts.is_always_level(raft, (1, 2), (1, 1, 1)))
        # It is its own mirror image in no line, though turned half round it is itself.
        skew = ((0, 0, 1), (4, 0, 1), (5, 2, 1), (1, 2, 1))
        for up in ((0, 1), (1, 0), (1, 2), (5, 2), (3, -2)):
            self.assertIs(False, draughts.is_always_level(skew, up, (5, 2, 2)))
        self.assertIs(False, draughts.is_always_level(kite, (0, 1), (1, 0, 1)))

    def test_mirror_images(self):
        for maker, section, up, ballast in cases(47, 10):
            e, corners = (up[1], -up[0]), [spot(corner) for corner in section]
            size, far = up[0] ** 2 + up[1] ** 2, height(e, spot(ballast))
            others = set()
            for x, y in corners:
                over = 2 * (height(e, (x, y)) - far) / size
                others.add((x - over * e[0], y - over * e[1]))
            self.assertEqual(others == set(corners), draughts.is_always_level(section, up, ballast))

    def lots(self, maker, section):
        """Lots with one corner, two and more."""
        around = tuple(maker.inner_point(section) for _ in range(4))
        return ((around[0],), polygon_of(around[:2]), polygon_of(around), polygon_of((maker.point(), around[0])),
                maker.polygon(5, 3))

    def test_lots(self):
        seen = set()
        for maker, section, up, ballast in cases(48, 10):
            levels = marks(section, up)
            for lot in self.lots(maker, section) + ((ballast,),):
                words = draughts.words_at_up(section, up, lot)
                self.assertEqual([word for word in WORDS if word in words], list(words))
                came = set()
                for step in range(1, 24):
                    at = levels[0] + Fraction(step, 24) * (levels[-1] - levels[0])
                    came |= {sign(turning(section, up, corner, at)) for corner in lot}
                self.assertLessEqual({word for word in WORDS if SIGNS[word] in came}, set(words))
                for word in ("left", "right"):
                    found = draughts.turned_height(section, up, lot, word)
                    self.assertEqual(word in words, found is not None)
                    if found is not None:
                        at, corner = found
                        self.assertIn(corner, lot)
                        self.assertTrue(levels[0] < number(at) < levels[-1])
                        self.assertEqual(word, word_at(section, corner, line_at(section, up, at)))
                if "left" in words and "right" in words:
                    self.assertIn("rest", words)
                seen.add((words, min(len(lot), 3)))
        self.assertGreater(len(seen), 8)

    def test_lots_by_hand(self):
        # `rest` at unlike heights of one ballast, and between two ballasts that never rest themselves.
        self.assertEqual(WORDS, draughts.words_at_up(sail, (0, 1), ((3, 2, 2),)))
        self.assertEqual(WORDS, draughts.words_at_up(raft, (0, 1), ((0, 0, 1), (2, 0, 1))))
        self.assertEqual(WORDS, draughts.words_at_up(sail, (0, 1), ((0, 0, 1), (9, 0, 1))))
        self.assertEqual(("rest",), draughts.words_at_up(raft, (0, 1), ((1, 0, 1), (1, 5, 1))))
        self.assertEqual(("left", "rest"), draughts.words_at_up(raft, (0, 1), ((0, 0, 1), (1, 0, 1))))
        self.assertEqual(("right",), draughts.words_at_up(raft, (0, 1), ((3, 0, 1), (5, 0, 1), (4, 9, 1))))
        # Nothing is told of the greatest height: there (4 / 3, 0) would rest, and below it the word is `left`.
        self.assertEqual(("left",), draughts.words_at_up(sail, (0, 1), ((4, 0, 3),)))
        self.assertIsNone(draughts.turned_height(sail, (0, 1), ((4, 0, 3),), "right"))
        # Nor of the least one: the bottom's middle is (2, 0), from which all water is to the left.
        self.assertEqual(("right",), draughts.words_at_up(sail, (0, 1), ((2, 0, 1),)))
        self.assertIsNone(draughts.turned_height(sail, (0, 1), ((2, 0, 1),), "left"))
        # `right` comes at heights next to the greatest one, or the least one, only.
        tiny = Fraction(1, 10 ** 40)
        for x, word in ((Fraction(4, 3) + tiny, "right"), (2 - tiny, "left")):
            lot = (point(x, 0),)
            self.assertEqual(WORDS, draughts.words_at_up(sail, (0, 1), lot))
            at, corner = draughts.turned_height(sail, (0, 1), lot, word)
            self.assertEqual((lot[0], word), (corner, word_at(sail, corner, line_at(sail, (0, 1), at))))
        # A row that touches 0 at one height: `rest` comes, the other word does not.
        self.assertEqual(("rest", "right"), draughts.words_at_up(LEAN, (0, 1), ((5, 0, 2),)))
        self.assertIsNone(draughts.turned_height(LEAN, (0, 1), ((5, 0, 2),), "left"))

    def test_great_numbers(self):
        great = 10 ** 130 + 9
        section = tuple((x * great, y * great, w) for x, y, w in sail)
        ballast = (3 * great, 2 * great, 2)
        profile = draughts.turning_profile(section, (0, 1), ballast)
        self.assertEqual((((0, 1), (4 * great, 1), (0, 24 * great ** 2, -15 * great, 2)),), profile)
        self.assertEqual((1, 0, -1), draughts.profile_tale(profile))
        n, is_just = draughts.change_near(profile, 1, 1)
        self.assertTrue((15 * great - 4 * n - 4) ** 2 < 33 * great ** 2 < (15 * great - 4 * n) ** 2)
        up = (great, great - 1)
        levels = marks(section, up)
        for told in (draughts.turning_profile(section, up, ballast), draughts.firmness_profile(section, up, ballast)):
            self.assertEqual([pair(at) for at in levels[:-1]], [low for low, high, row in told])
        self.assertIs(True, draughts.is_always_level(section, (1, 1), (great, great, 3)))
        self.assertIs(False, draughts.is_always_level(section, up, (great, great, 3)))

    def test_arguments(self):
        right = {"section": sail, "up": (-2, 1), "ballast": (9, 1, 2)}
        bad = {"section": SECTION, "up": UP, "ballast": POINT}
        for function in (draughts.turning_profile, draughts.firmness_profile, draughts.is_always_level):
            check_arguments(self, function, right, bad)
        check_arguments(self, draughts.loading_profile,
                        {"section": raft, "up": (0, 1), "height": (1, 2), "ballast": (1, 1, 1), "place": (0, 9, 1)},
                        {"section": SECTION, "up": UP, "height": HEIGHT, "ballast": POINT, "place": POINT})
        right = {"section": square, "up": (1, 3), "lot": ((0, 0, 1), (1, 1, 1))}
        bad = {"section": SECTION, "up": UP, "lot": (InvalidPolygon, wrong.POLYGONS)}
        check_arguments(self, draughts.words_at_up, right, bad)
        for word in ("left", "right"):
            check_arguments(self, draughts.turned_height, {**right, "word": word},
                            {**bad, "word": (InvalidWord, wrong.WORDS)})
        check_arguments(self, draughts.profile_sign, {"profile": CROSS, "height": (2, 1)}, {"height": HEIGHT})
        check_arguments(self, draughts.profile_tale, {"profile": NOUGHTS}, {})
        for many in (1, 10 ** 12):
            check_arguments(self, draughts.change_near, {"profile": CROSS, "index": 2, "many": many},
                            {"index": (InvalidIndex, wrong.indexes(3)), "many": (InvalidNumber, wrong.MANY)})
        check_arguments(self, draughts.change_near, {"profile": (((0, 1), (1, 1), ()),), "index": 0, "many": 3},
                        {"index": (InvalidIndex, wrong.indexes(1))})

    def test_what_is_told_last(self):
        tiny = 10 ** 50
        for off in ((0, 1), (2, 1), (-1, tiny), (2 * tiny + 1, tiny), (9, 1), (-9, 1)):
            raised(self, OffSection, {"given": off}, draughts.loading_profile, raft, (0, 1), off, (1, 1, 1), (0, 0, 1))
            raised(self, OffSection, {"given": off}, draughts.loading_profile, place=(0, 0, 1), ballast=(1, 1, 1),
                   height=off, up=(0, 1), section=raft)
            raised(self, InvalidPoint, {"given": None}, draughts.loading_profile, raft, (0, 1), off, None, (0, 0, 1))
            raised(self, InvalidPoint, {"given": None}, draughts.loading_profile, raft, (0, 1), off, (1, 1, 1), None)
            if off[0] not in (0, 2):
                raised(self, OffSection, {"given": off}, draughts.profile_sign, CROSS, off)
                raised(self, OffSection, {"given": off}, draughts.profile_sign, height=off, profile=CROSS)
        for near in ((1, tiny), (2 * tiny - 1, tiny)):
            self.assertEqual(1, len(draughts.loading_profile(raft, (0, 1), near, (1, 1, 1), (0, 0, 1))))


if __name__ == "__main__":
    unittest.main()
