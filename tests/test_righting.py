"""Righting rows and tales."""

import unittest
from fractions import Fraction

from hullrests import righting
from hullrests.errors import InvalidIndex, InvalidLog
from hullrests.metacentres import ballast_for
from hullrests.points import plus, quarter, times
from hullrests.rows import is_row, shortest
from hullrests.sections import grown, mirrored, moved, turned
from hullrests.stands import corner_stands, pieces, right_share, stand_from
from tests import reckoning, wrong
from tests.reckoning import Maker, number, pair, sign, told_once, word
from tests.shapes import ALL, EVEN, beam, deep, hexagon, octagon, raft, wedge
from tests.wrong import check_arguments

# On edge 3 of the raft its lever is (u + 1) (2 u - 1) (2 u - 1) / 12, with u from -1 to 1 and the share (1 + u) / 2.
SLIDE = (raft, (2, 1), (23, 23, 24))
BACK = {"left": "right", "rest": "rest", "right": "left"}


def round_from(tale):
    """A tale as a round: the words once, and not twice if the first and the last one are alike."""
    return list(tale[:-1] if len(tale) > 1 and tale[0] == tale[-1] else tale)


def rounds(words):
    """The same round, beginning at each place."""
    return [words[k:] + words[:k] for k in range(len(words))]


def value(row, at):
    """The worth of a row."""
    return sum(n * at ** k for k, n in enumerate(row))


class RightingTest(unittest.TestCase):
    def each(self, many=12):
        maker = Maker(10)
        for section in ALL + tuple(maker.polygon(maker.random.randint(3, 8)) for _ in range(many)):
            yield (section, maker.area(section), maker.random.choice((maker.point(), maker.inner_point(section))))

    def test_rows_and_tales(self):
        for section, area, ballast in self.each():
            log, words, seen = (section, area, ballast), righting.righting_tale((section, area, ballast)), []
            for index, (edge, low, high, opposite) in enumerate(pieces(section, area)):
                row = righting.righting_row(log, index)
                self.assertIs(True, is_row(row))
                self.assertEqual(shortest(row), row)
                bottom = right_share(section, area, index)[2:]
                self.assertEqual(4 if bottom[1] == 0 else 5, len(row))
                factors = set()
                for part in range(7):
                    share = number(low) + Fraction(part, 6) * (number(high) - number(low))
                    left = (edge, pair(share)) if share < 1 else ((edge + 1) % len(section), (0, 1))
                    lever = reckoning.lever(section, ballast, stand_from(section, area, left))
                    self.assertEqual(sign(lever), sign(value(row, share)))
                    if lever != 0:
                        factors.add(value(row, share) / (lever * value(bottom, share) ** 2))
                    if part < 6:
                        seen.append(word(lever))
                # One factor above 0 leads from the lever, times the square of m + n x, to the row.
                self.assertEqual(1, len(factors))
                self.assertGreater(factors.pop(), 0)
            self.assertEqual(list(words), told_once(words))
            left_over = iter(words)
            self.assertTrue(all(each in left_over for each in told_once(seen)))

    def test_tales(self):
        self.assertEqual(("rest", "left", "rest", "right") * 4, righting.righting_tale(beam))
        self.assertEqual(("left", "rest", "right", "rest", "left", "rest", "right", "rest", "left"),
                         righting.righting_tale(wedge))
        tale = righting.righting_tale(deep)
        self.assertEqual({"left", "rest", "right"}, set(tale))
        self.assertEqual(2, tale.count("rest"))

    def test_parallel_edges(self):
        seen = 0
        for section in EVEN:
            area = pair(Fraction(1, 3) * reckoning.area([reckoning.spot(each) for each in section]))
            log = (section, area, section[1])
            for index, (edge, low, high, opposite) in enumerate(pieces(section, area)):
                bottom, row = right_share(section, area, index)[2:], righting.righting_row(log, index)
                ways = []
                for k in (edge, opposite):
                    (x, y), (u, v) = (reckoning.spot(section[(k + j) % len(section)]) for j in (0, 1))
                    ways.append((u - x, v - y))
                is_parallel = ways[0][0] * ways[1][1] == ways[0][1] * ways[1][0]
                seen += is_parallel
                self.assertEqual((4, 0) if is_parallel else (5, 1), (len(row), int(bottom[1] != 0)))
        self.assertGreater(seen, 20)
        self.assertEqual((3, 4, -12, 8), righting.righting_row(deep, 0))
        for section in (hexagon, octagon):
            self.assertEqual(4, min(len(righting.righting_row((section, (5, 2), (0, 0, 1)), k))
                                    for k in range(len(pieces(section, (5, 2))))))

    def test_neighbouring_rows_where_they_meet(self):
        for section, area, ballast in self.each():
            for log in ((section, area, ballast), (section, area, ballast_for(
                    section, corner_stands(section, area)[-1], (1, 3)))):
                told = pieces(section, area)
                rows = [righting.righting_row(log, k) for k in range(len(told))]
                for k, (edge, low, high, opposite) in enumerate(told):
                    before = sign(value(rows[k - 1], number(told[k - 1][2])))
                    self.assertEqual(before, sign(value(rows[k], number(low))))
                    if low == (0, 1):
                        self.assertEqual((1, 1), told[k - 1][2])
            # The last ballast makes the stand between the last two pieces a rest.
            self.assertEqual(0, before)

    def test_tales_that_begin_with_a_rest(self):
        for section in ALL:
            size = reckoning.area([reckoning.spot(each) for each in section])
            for share in (Fraction(1, 2), Fraction(2, 7)):
                area = pair(share * size)
                for firm in ((1, 2), (-1, 2)):
                    tale = righting.righting_tale((section, area, ballast_for(
                        section, stand_from(section, area, (0, (0, 1))), firm)))
                    words = ("right", "left") if firm[0] > 0 else ("left", "right")
                    self.assertEqual(("rest",) + words[1:] + words[:1], tale[:2] + tale[-1:])
                    # A rest just before corner 0, and one just behind it: the tale begins with what is between.
                    for left in ((len(section) - 1, (10 ** 30 - 1, 10 ** 30)), (0, (1, 10 ** 30))):
                        tale = righting.righting_tale((section, area, ballast_for(
                            section, stand_from(section, area, left), firm)))
                        self.assertEqual(words[1] if left[0] else words[0], tale[0])
                        self.assertEqual(words[1] if left[0] else words[0], tale[-1])
                        self.assertEqual("rest", tale[-2] if left[0] else tale[1])
                        self.assertEqual(words[0] if left[0] else words[1], tale[-3] if left[0] else tale[2])

    def test_sliding_rests(self):
        tale = righting.righting_tale(SLIDE)
        self.assertEqual(("left", "rest", "right", "rest", "left", "rest", "right", "rest", "right", "rest", "left",
                          "rest", "left"), tale)
        self.assertEqual((0, 9, -24, 16), righting.righting_row(SLIDE, 3))
        for step in ((1, 1, 10 ** 20), (-1, -1, 10 ** 20)):
            # A little beside, each sliding rest falls apart into two or into none.
            near = righting.righting_tale((raft, (2, 1), plus(SLIDE[2], step)))
            self.assertIn(len(near), (len(tale) + 4, len(tale) - 4))

    def test_moved_turned_mirrored_grown(self):
        way, much = (10 ** 50, -3, 7), (3, 10 ** 20)
        for section, area, ballast in self.each(5):
            log = (section, area, ballast)
            tale = righting.righting_tale(log)
            there = (moved(section, way), area, plus(ballast, way))
            self.assertEqual(tale, righting.righting_tale(there))
            self.assertEqual([righting.righting_row(log, k) for k in range(len(pieces(section, area)))],
                             [righting.righting_row(there, k) for k in range(len(pieces(section, area)))])
            large = (grown(section, much), pair(number(area) * number(much) ** 2), times(ballast, much))
            self.assertEqual(tale, righting.righting_tale(large))
            self.assertEqual(righting.righting_row(log, 1), righting.righting_row(large, 1))
            around = rounds(round_from(tale))
            self.assertIn(round_from(righting.righting_tale((turned(section), area, quarter(ballast)))), around)
            x, y, w = ballast
            back = round_from(righting.righting_tale((mirrored(section), area, (-x, y, w))))
            self.assertIn([BACK[each] for each in back[::-1]], around)

    def test_arguments(self):
        log = (InvalidLog, wrong.logs(beam))
        check_arguments(self, righting.righting_tale, {"log": beam}, {"log": log})
        check_arguments(self, righting.righting_row, {"log": beam, "index": 0},
                        {"log": log, "index": (InvalidIndex, wrong.indexes(4))})
        check_arguments(self, righting.righting_row, {"log": wedge, "index": 5},
                        {"index": (InvalidIndex, wrong.indexes(6))})


if __name__ == "__main__":
    unittest.main()
