"""Righting rows and tales."""

import unittest
from fractions import Fraction

from hullrests import righting
from hullrests.errors import InvalidIndex, InvalidLog
from hullrests.rows import is_row, shortest
from hullrests.stands import pieces, right_share, stand_from
from tests import reckoning, wrong
from tests.reckoning import Maker, number, pair, sign, told_once, word
from tests.shapes import ALL, beam, deep, wedge
from tests.wrong import check_arguments


def value(row, at):
    """The worth of a row."""
    return sum(n * at ** k for k, n in enumerate(row))


class RightingTest(unittest.TestCase):
    def each(self, many=12):
        maker = Maker(10)
        for section in ALL + tuple(maker.polygon(maker.random.randint(3, 8)) for _ in range(many)):
            yield (section, maker.area(section), maker.random.choice((maker.point(), maker.inner_point(section))))

    def test_rows_and_tales(self):
        for section, area, ballast in self.each():
            log, words, seen = (section, area, ballast), righting.righting_tale((section, area, ballast)), []
            for index, (edge, low, high, opposite) in enumerate(pieces(section, area)):
                row = righting.righting_row(log, index)
                self.assertIs(True, is_row(row))
                self.assertEqual(shortest(row), row)
                bottom = right_share(section, area, index)[2:]
                self.assertEqual(4 if bottom[1] == 0 else 5, len(row))
                factors = set()
                for part in range(7):
                    share = number(low) + Fraction(part, 6) * (number(high) - number(low))
                    left = (edge, pair(share)) if share < 1 else ((edge + 1) % len(section), (0, 1))
                    lever = reckoning.lever(section, ballast, stand_from(section, area, left))
                    self.assertEqual(sign(lever), sign(value(row, share)))
                    if lever != 0:
                        factors.add(value(row, share) / (lever * value(bottom, share) ** 2))
                    if part < 6:
                        seen.append(word(lever))
                # One factor above 0 leads from the lever, times the square of m + n x, to the row.
                self.assertEqual(1, len(factors))
                self.assertGreater(factors.pop(), 0)
            self.assertEqual(list(words), told_once(words))
            left_over = iter(words)
            self.assertTrue(all(each in left_over for each in told_once(seen)))

    def test_tales(self):
        self.assertEqual(("rest", "left", "rest", "right") * 4, righting.righting_tale(beam))
        self.assertEqual(("left", "rest", "right", "rest", "left", "rest", "right", "rest", "left"),
                         righting.righting_tale(wedge))
        tale = righting.righting_tale(deep)
        self.assertEqual({"left", "rest", "right"}, set(tale))
        self.assertEqual(2, tale.count("rest"))

    def test_arguments(self):
        log = (InvalidLog, wrong.logs(beam))
        check_arguments(self, righting.righting_tale, {"log": beam}, {"log": log})
        check_arguments(self, righting.righting_row, {"log": beam, "index": 0},
                        {"log": log, "index": (InvalidIndex, wrong.indexes(4))})
        check_arguments(self, righting.righting_row, {"log": wedge, "index": 5},
                        {"index": (InvalidIndex, wrong.indexes(6))})


if __name__ == "__main__":
    unittest.main()
