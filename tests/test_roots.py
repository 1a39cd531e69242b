"""Samples of signs, and signs beside roots, of rows: what the checked modules leave to hullrests.roots."""

import random
import unittest
from fractions import Fraction

from hullrests.polys import row_times
from hullrests.roots import sample_inside, sample_with, sign_beside
from tests.reckoning import number, pair, sign


def value(row, at):
    """The worth of a row."""
    return sum(n * at ** k for k, n in enumerate(row))


class RootsTest(unittest.TestCase):
    def test_samples_by_hand(self):
        tiny = 10 ** 30
        for row, found in (((1, -3), {1, -1}), ((-1, 3), {1, -1}), ((0, 1), {1}), ((1, -1), {1}), ((0, 1, -1), {1}), ((1,), {1}),
                           ((), set()), ((0, 0, -1), {-1}), ((1, -tiny), {1, -1}), ((tiny - 1, -tiny), {1, -1}),
                           ((1, -4, 4), {1}), ((1 - tiny, 4 * tiny, -4 * tiny), {1, -1})):
            for turn in (1, -1):
                at = sample_inside(row, (0, 1), (1, 1), turn)
                self.assertEqual(turn in found, at is not None)
                if at is not None:
                    self.assertTrue(0 < number(at) < 1)
                    self.assertEqual(turn, sign(value(row, number(at))))
        # At the ends alone.
        self.assertEqual(((1, 1), None), (sample_with((0, 1), (0, 1), (1, 1), 1), sample_with((0, 1), (0, 1), (1, 1), -1)))
        self.assertEqual((2, 3), sample_with((-1, 2), (2, 3), (2, 3), 1))
        self.assertIsNone(sample_with((-1, 2), (1, 2), (1, 2), 1))
        self.assertIsNone(sample_with((), (1, 2), (1, 2), 1))

    def test_samples(self):
        maker = random.Random(91)
        for _ in range(150):
            roots = sorted(Fraction(maker.randint(-6, 6), maker.randint(1, 5)) for _ in range(maker.randint(0, 5)))
            row = (maker.choice((1, -1)),)
            for root in roots:
                row = row_times(row, (-root.numerator, root.denominator))
            low = Fraction(maker.randint(-7, 5), 2)
            high = low + Fraction(maker.randint(1, 9), 3)
            marks = [low] + [root for root in roots if low < root < high] + [high]
            signs = {sign(value(row, (here + there) / 2)) for here, there in zip(marks, marks[1:])} - {0}
            for turn in (1, -1):
                at = sample_inside(row, pair(low), pair(high), turn)
                self.assertEqual(turn in signs, at is not None)
                if at is not None:
                    self.assertTrue(low < number(at) < high)
                    self.assertEqual(turn, sign(value(row, number(at))))
                self.assertEqual(turn in signs, sample_with(row, pair(low), pair(high), turn) is not None)

    def test_signs_beside(self):
        for row, before, behind in (((0, 1), -1, 1), ((0, -1), 1, -1), ((0, 0, 1), 1, 1), ((0, 0, 0, 5), -1, 1),
                                    ((0, 0, -2, 1), -1, -1), ((3, 1), 1, 1), ((-3,), -1, -1), ((0, 0, 0, 0, -1), -1, -1)):
            self.assertEqual((before, behind), (sign_beside(row, (0, 1), -1), sign_beside(row, (0, 1), 1)))
        triple = row_times((-2, 3), row_times((-2, 3), (-2, 3)))
        self.assertEqual((-1, 1), (sign_beside(triple, (2, 3), -1), sign_beside(triple, (2, 3), 1)))


if __name__ == "__main__":
    unittest.main()
