"""Rows: reckoning, Sturm rows, roots, signs."""

import random
import unittest
from fractions import Fraction

from hullrests import rows
from hullrests.errors import InvalidFraction, InvalidIndex, InvalidNumber, InvalidNumbers, InvalidRow, NotAhead, Nought
from tests import wrong
from tests.reckoning import pair, sign, told_once
from tests.wrong import check_arguments, raised

CUBIC = (0, 1, -3, 2)
GREAT = 10 ** 390 + 1
ROW = (InvalidRow, wrong.ROWS)
SPAN = (InvalidFraction, wrong.FRACTIONS)


def value(row, at):
    """The worth, by powers."""
    return sum(n * at ** k for k, n in enumerate(row))


def product(*factors):
    """The product of rows."""
    found = [1]
    for factor in factors:
        after = [0] * (len(found) + len(factor) - 1)
        for k, n in enumerate(found):
            for j, m in enumerate(factor):
                after[k + j] += n * m
        found = after
    return tuple(found)


def is_up_to(root, at):
    """Whether a root is at most a number; a root is a Fraction, or (s, q) for s times the root of q."""
    if isinstance(root, Fraction):
        return root <= at
    s, q = root
    return (at >= 0 and q <= at * at) if s > 0 else (at >= 0 or at * at <= q)


def is_at(root, at):
    """Whether a root is a number."""
    return root == at if isinstance(root, Fraction) else False


class Known:
    """A row that is made of its roots: fractions, roots of whole numbers, and factors that have none."""

    def __init__(self, seed):
        self.random = random.Random(seed)
        self.row, self.roots = (self.random.choice((1, -1, 2, -6)),), {}
        for _ in range(self.random.randint(0, 5)):
            times = self.random.choice((1, 1, 1, 2, 3))
            kind = self.random.randint(0, 3)
            if kind < 2:
                m = self.random.randint(1, 5)
                root = Fraction(self.random.randint(-4 * m, 4 * m), m)
                factor, found = (-root.numerator, root.denominator), [root]
            elif kind == 2:
                q = self.random.choice((2, 3, 5, 6, 7, 8))
                factor, found = (-q, 0, 1), [(1, q), (-1, q)]
            else:
                factor, found = (self.random.randint(1, 3), 0, 1), []
            made = product(self.row, *[factor] * times)
            if len(made) > 13:
                continue
            self.row = made
            for root in found:
                self.roots[root] = self.roots.get(root, 0) + times

    def between(self, low, high):
        """The roots from low up to high, ascending."""
        found = [root for root in self.roots if is_up_to(root, high) and (not is_up_to(root, low) or is_at(root, low))]
        return sorted(found, key=lambda root: float(root) if isinstance(root, Fraction) else root[0] * root[1] ** 0.5)

    def tale(self, low, high):
        """The signs from low up to high, by how often each root comes."""
        roots = self.between(low, high)
        side = sign(self.row[-1])
        for root, times in self.roots.items():
            if not is_up_to(root, low) or is_at(root, low):
                side *= (-1) ** times
        # Now it is the sign just before low.
        found = [] if roots and is_at(roots[0], low) else [side]
        for root in roots:
            found.append(0)
            side *= (-1) ** self.roots[root]
            if not is_at(root, high):
                found.append(side)
        return tuple(told_once(found))


class RowsTest(unittest.TestCase):
    def known(self, many):
        for seed in range(many):
            known = Known(seed)
            ends = [Fraction(known.random.randint(-12, 12), known.random.randint(1, 4)) for _ in range(2)]
            fractions = [root for root in known.roots if isinstance(root, Fraction)]
            if fractions and seed % 3 == 0:
                ends[0] = known.random.choice(fractions)
            if fractions and seed % 5 == 0:
                ends[1] = known.random.choice(fractions)
            yield known, min(ends), max(ends)

    def test_kinds(self):
        for value in ((), (1,), (0, 1), (0, 0, -1), (GREAT, -GREAT), (0,) * 12 + (1,)):
            self.assertIs(True, rows.is_row(value))
        for value in wrong.ROWS:
            self.assertIs(False, rows.is_row(value))

    def test_made_of_numbers(self):
        self.assertEqual((), rows.row_of(()))
        self.assertEqual((), rows.row_of((0,) * 13))
        self.assertEqual((0, 2), rows.row_of((0, 2) + (0,) * 11))
        self.assertEqual((-GREAT,), rows.row_of((-GREAT, 0)))
        self.assertEqual((1, 0, 1), rows.row_of((1, 0, 1)))

    def test_worths(self):
        for known, low, high in self.known(80):
            self.assertEqual(pair(value(known.row, low)), rows.worth(known.row, pair(low)))
        self.assertEqual((0, 1), rows.worth((), (5, 3)))
        self.assertEqual((7, 1), rows.worth((7,), (5, 3)))
        self.assertEqual((GREAT ** 12, 7 ** 12), rows.worth((0,) * 12 + (1,), pair(Fraction(GREAT, 7))))
        self.assertEqual((-1, 8), rows.worth((0, 0, 0, 1), (-1, 2)))

    def test_sums_and_products(self):
        for seed in range(60):
            a, b = Known(seed).row, Known(seed + 1000).row
            for at in (0, 1, Fraction(-3, 2), 7):
                self.assertEqual(value(a, at) + value(b, at), value(rows.row_sum(a, b), at))
                if len(a) + len(b) - 1 <= 13:
                    self.assertEqual(product(a, b), rows.row_product(a, b))
        self.assertEqual((), rows.row_sum((1, -GREAT), (-1, GREAT)))
        self.assertEqual((1,), rows.row_sum((1, 2, 3), (0, -2, -3)))
        self.assertEqual((1, 2), rows.row_sum((), (1, 2)))
        self.assertEqual(((), (), ()), (rows.row_product((), ()), rows.row_product((), (1, 2)), rows.row_product((3,), ())))

    def test_long_products(self):
        six, seven = (1, 2, 3, 4, 5, -6), (0, 1, 0, -1, 0, 0, 7, 8)
        self.assertEqual(13, len(product(six, seven)))
        self.assertEqual(product(six, seven), rows.row_product(six, seven))
        for long in (seven, (0,) * 12 + (1,)):
            raised(self, InvalidRow, {"given": product(seven, long)}, rows.row_product, seven, long)
            raised(self, InvalidRow, {"given": product(seven, long)}, rows.row_product, row=seven, other=long)
        full = (1,) * 13
        self.assertEqual((2,) * 13, rows.row_product(full, (2,)))
        self.assertEqual((), rows.row_product(full, ()))
        raised(self, InvalidRow, {"given": product(full, full)}, rows.row_product, full, full)
        raised(self, InvalidRow, {"given": [1]}, rows.row_product, full, [1])

    def test_growth_and_shortest(self):
        self.assertEqual(((), (), (3,), (0, 4)), tuple(rows.growth(row) for row in ((), (5,), (1, 3), (9, 0, 2))))
        self.assertEqual((0,) * 11 + (12 * GREAT,), rows.growth((0,) * 12 + (GREAT,)))
        self.assertEqual(((), (1,), (-1,), (0, 1), (-2, 3)), tuple(
            rows.shortest(row) for row in ((), (5,), (-5,), (0, 4), (-4, 6))))
        self.assertEqual((-1, 0, 2), rows.shortest((-GREAT, 0, 2 * GREAT)))

    def test_remainders(self):
        for seed in range(120):
            row, other = Known(seed).row, Known(seed + 500).row
            left_over = [Fraction(n) for n in row]
            while len(left_over) >= len(other):
                share = left_over[-1] / other[-1]
                for k, n in enumerate(other):
                    left_over[len(left_over) - len(other) + k] -= share * n
                while left_over and left_over[-1] == 0:
                    left_over.pop()
            found = rows.remainder(row, other)
            self.assertEqual(rows.shortest(found), found)
            self.assertEqual(len(left_over), len(found))
            if found:
                share = left_over[-1] / found[-1]
                self.assertGreater(share, 0)
                self.assertEqual(left_over, [share * n for n in found])
        self.assertEqual((1, 2), rows.remainder((2, 4), (1, 1, 1)))
        self.assertEqual((), rows.remainder(CUBIC, CUBIC))
        self.assertEqual((), rows.remainder(product(CUBIC, (3, -7)), CUBIC))
        self.assertEqual((), rows.remainder((1, 2, 3), (5,)))
        self.assertEqual((), rows.remainder((), (1, 2)))
        self.assertEqual((-1,), rows.remainder((-2, 0, 1), (0, -3)))
        raised(self, Nought, {}, rows.remainder, (1, 2), ())
        raised(self, Nought, {}, rows.remainder, (), ())

    def test_common_factors(self):
        common = product((-1, 2), (-3, 1), (1, 0, 1))
        row, other = product(common, (5, -1), (-2,)), product(common, (-7, 1), (7, 3))
        self.assertEqual(common, rows.common_factor(row, other))
        self.assertEqual(common, rows.common_factor(other, row))
        self.assertEqual(common, rows.common_factor(tuple(-n for n in row), other))
        double = product((-1, 2), (-1, 2), (5, 1))
        self.assertEqual((1, -4, 4), rows.common_factor(double, product((-1, 2), (-1, 2), (-1, 2))))
        self.assertEqual((1,), rows.common_factor((2, 4), (6,)))
        self.assertEqual((1,), rows.common_factor((1, 1), (2, 1)))
        self.assertEqual((-2, 3), rows.common_factor((), (4, -6)))
        self.assertEqual((-2, 3), rows.common_factor((4, -6), ()))
        self.assertEqual((), rows.common_factor((), ()))
        self.assertEqual((-1, 1), rows.common_factor((-GREAT, GREAT), (-1, 0, 1)))

    def test_sturm_rows(self):
        for known, low, high in self.known(80):
            told = rows.sturm_row(known.row)
            self.assertEqual(rows.shortest(known.row), told[0])
            if len(known.row) > 1:
                self.assertEqual(rows.shortest(rows.growth(known.row)), told[1])
            else:
                self.assertEqual(1, len(told))
            for a, b, c in zip(told, told[1:], told[2:] + ((),)):
                self.assertEqual(c, tuple(-n for n in rows.remainder(a, b)))
            if known.roots and 0 not in (value(known.row, low), value(known.row, high)) and low < high:
                changes = []
                for at in (low, high):
                    changes.append(len(told_once([sign(value(row, at)) for row in told if value(row, at) != 0])))
                self.assertEqual(len(known.between(low, high)), changes[0] - changes[1])
        self.assertEqual(((1,),), rows.sturm_row((5,)))
        self.assertEqual(((-1,),), rows.sturm_row((-5,)))
        self.assertEqual(((2, 3), (1,)), rows.sturm_row((4, 6)))
        raised(self, Nought, {}, rows.sturm_row, ())

    def test_how_many(self):
        for known, low, high in self.known(300):
            self.assertEqual(len(known.between(low, high)), rows.how_many(known.row, pair(low), pair(high)))

    def test_how_many_at_the_ends(self):
        for row in (CUBIC, product(CUBIC, CUBIC), product(CUBIC, (0, 1), (0, 1))):
            for low, high, many in (((0, 1), (1, 1), 3), ((0, 1), (3, 4), 2), ((1, 4), (1, 1), 2), ((1, 4), (3, 4), 1),
                                    ((-1, 1), (0, 1), 1), ((-1, 1), (-1, 9), 0), ((1, 2), (1, 2), 1), ((1, 3), (1, 3), 0),
                                    ((1, 1), (9, 1), 1), ((1, 2), (1, 1), 2)):
                self.assertEqual(many, rows.how_many(row, low, high))
                self.assertEqual(many, rows.how_many(row=row, low=low, high=high))
        self.assertEqual(0, rows.how_many((7,), (0, 1), (1, 1)))
        self.assertEqual(1, rows.how_many((-2, 0, 1), (0, 1), (10 ** 60, 1)))
        self.assertEqual(2, rows.how_many((-2 * GREAT * GREAT, 0, 1), (-2 * GREAT, 1), (2 * GREAT, 1)))
        self.assertEqual(0, rows.how_many((-2 * GREAT * GREAT, 0, 1), (-GREAT, 1), (GREAT, 1)))
        # Two roots so near one another that only great numbers tell them apart.
        near = product((-GREAT, GREAT - 1), (-GREAT - 1, GREAT))
        self.assertEqual(2, rows.how_many(near, (1, 1), (2, 1)))
        self.assertEqual(1, rows.how_many(near, pair(Fraction(GREAT + 1, GREAT)), pair(Fraction(GREAT + 1, GREAT))))
        raised(self, Nought, {}, rows.how_many, (), (0, 1), (0, 1))
        raised(self, NotAhead, {"given": (0, 1)}, rows.how_many, (), (1, 1), (0, 1))

    def test_roots_near(self):
        for known, low, high in self.known(150):
            for k, root in enumerate(known.between(low, high)):
                for many in (1, 3, 10, 10 ** 12):
                    n, is_just = rows.root_near(known.row, pair(low), pair(high), k, many)
                    self.assertTrue(is_at(root, Fraction(n, many)) or not is_up_to(root, Fraction(n, many)))
                    self.assertTrue(is_up_to(root, Fraction(n + 1, many)) and not is_at(root, Fraction(n + 1, many)))
                    self.assertIs(is_at(root, Fraction(n, many)), is_just)

    def test_roots_near_by_hand(self):
        whole = ((-3, 1), (3, 1))
        self.assertEqual([(-15, False), (14, False)], [rows.root_near((-2, 0, 1), *whole, k, 10) for k in (0, 1)])
        self.assertEqual([(-2, False), (1, False)], [rows.root_near((-2, 0, 1), *whole, k, 1) for k in (0, 1)])
        self.assertEqual((1414213562373, False), rows.root_near((-2, 0, 1), *whole, 1, 10 ** 12))
        self.assertEqual((-1414213562374, False), rows.root_near((-2, 0, 1), *whole, 0, 10 ** 12))
        # Just at n / many, and beside it by less than one can see with so many parts.
        for many in (1, 10, 10 ** 12):
            self.assertEqual((-many, True), rows.root_near((1, 1), (-1, 1), (0, 1), 0, many))
            small = 10 ** 30
            self.assertEqual((-many, False), rows.root_near((small - 1, small), (-1, 1), (0, 1), 0, many))
            self.assertEqual((-many - 1, False), rows.root_near((small + 1, small), (-2, 1), (0, 1), 0, many))
            self.assertEqual((0, False), rows.root_near((-1, small), (0, 1), (1, 1), 0, many))
            self.assertEqual((-1, False), rows.root_near((1, small), (-1, 1), (1, 1), 0, many))
            self.assertEqual((0, True), rows.root_near((0, small), (-1, 1), (1, 1), 0, many))
        # Roots beside the span do not count, not even at n / many.
        self.assertEqual((0, False), rows.root_near(product((-1, 2), (-1, 1)), (0, 1), (7, 10), 0, 1))
        self.assertEqual((1, True), rows.root_near(CUBIC, (1, 4), (1, 1), 1, 1))
        self.assertEqual((1, True), rows.root_near(CUBIC, (1, 2), (1, 2), 0, 2))
        self.assertEqual((1, False), rows.root_near(CUBIC, (1, 2), (1, 2), 0, 3))
        self.assertEqual((3 * GREAT, True), rows.root_near((-GREAT, 1), (0, 1), (GREAT, 1), 0, 3))
        # Several roots in one part.
        four = product((-1, 5), (-1, 4), (-1, 3), (-1, 2))
        self.assertEqual([(0, False)] * 4, [rows.root_near(four, (0, 1), (1, 1), k, 1) for k in range(4)])
        self.assertEqual([(0, False)] * 3 + [(1, True)], [rows.root_near(four, (0, 1), (1, 1), k, 2) for k in range(4)])

    def test_tales(self):
        for known, low, high in self.known(300):
            if low < high:
                self.assertEqual(known.tale(low, high), rows.sign_tale(known.row, pair(low), pair(high)))
            self.assertEqual((sign(value(known.row, low)),), rows.sign_tale(known.row, pair(low), pair(low)))

    def test_tales_by_hand(self):
        zero, one = (0, 1), (1, 1)
        self.assertEqual((0,), rows.sign_tale((), zero, one))
        self.assertEqual((0,), rows.sign_tale((), one, one))
        self.assertEqual((-1,), rows.sign_tale((-5,), zero, one))
        self.assertEqual((0, 1, 0, -1), rows.sign_tale(CUBIC, zero, (3, 4)))
        self.assertEqual((1, 0, -1, 0), rows.sign_tale(CUBIC, (1, 4), one))
        self.assertEqual((0, -1), rows.sign_tale(CUBIC, (1, 2), (3, 4)))
        self.assertEqual((0,), rows.sign_tale(CUBIC, (1, 2), (1, 2)))
        self.assertEqual((1, 0, 1), rows.sign_tale((1, -4, 4), zero, one))
        self.assertEqual((0, 1), rows.sign_tale((1, -4, 4), (1, 2), one))
        self.assertEqual((1, 0), rows.sign_tale((1, -4, 4), zero, (1, 2)))
        self.assertEqual((-1, 0, -1, 0, 1), rows.sign_tale(product((-1, 4), (-1, 4), (-3, 4)), zero, one))

    def test_above(self):
        zero, one = (0, 1), (1, 1)
        square = (1, -4, 4)
        small = (1 + 10 ** 390, -4 * 10 ** 390, 4 * 10 ** 390)
        self.assertIs(False, rows.is_above(square, zero, one))
        self.assertIs(True, rows.is_above(small, zero, one))
        self.assertIs(False, rows.is_above((small[0] - 2,) + small[1:], zero, one))
        self.assertIs(True, rows.is_above(square, zero, (1, 3)))
        self.assertIs(False, rows.is_above(square, zero, (1, 2)))
        self.assertIs(False, rows.is_above((), zero, one))
        self.assertIs(True, rows.is_above((1,), zero, zero))
        self.assertIs(False, rows.is_above((-1,), zero, one))
        # The square of x x - 2, by itself and a little above 0.
        irrational = product((-2, 0, 1), (-2, 0, 1))
        self.assertIs(False, rows.is_above(irrational, zero, (2, 1)))
        self.assertIs(True, rows.is_above((irrational[0] * 10 ** 99 + 1, 0, -4 * 10 ** 99, 0, 10 ** 99), zero, (2, 1)))
        for known, low, high in self.known(60):
            if low < high:
                self.assertIs(known.tale(low, high) == (1,), rows.is_above(known.row, pair(low), pair(high)))

    def test_arguments(self):
        check_arguments(self, rows.is_row, {"value": (1,)}, {})
        check_arguments(self, rows.row_of, {"numbers": (1, 0)}, {"numbers": (InvalidNumbers, wrong.NUMBERS)})
        for function in (rows.growth, rows.shortest, rows.sturm_row):
            check_arguments(self, function, {"row": CUBIC}, {"row": ROW})
        for function in (rows.row_sum, rows.row_product, rows.remainder, rows.common_factor):
            check_arguments(self, function, {"row": CUBIC, "other": (1, 2)}, {"row": ROW, "other": ROW})
        check_arguments(self, rows.worth, {"row": CUBIC, "at": (1, 3)}, {"row": ROW, "at": SPAN})
        right, bad = {"row": CUBIC, "low": (0, 1), "high": (1, 1)}, {"row": ROW, "low": SPAN, "high": SPAN}
        for function in (rows.how_many, rows.sign_tale, rows.is_above):
            check_arguments(self, function, right, bad)
            raised(self, NotAhead, {"given": (-1, 2)}, function, CUBIC, (0, 1), (-1, 2))
            raised(self, NotAhead, {"given": (0, 1)}, function, CUBIC, pair(Fraction(1, GREAT)), (0, 1))
            raised(self, InvalidFraction, {"given": (2, 2)}, function, CUBIC, (3, 1), (2, 2))
        check_arguments(self, rows.root_near, {**right, "index": 2, "many": 7},
                        {**bad, "index": (InvalidIndex, wrong.NO_COUNTS), "many": (InvalidNumber, wrong.MANY)})
        for many in (1, 10 ** 12):
            check_arguments(self, rows.root_near, {**right, "index": 0, "many": many}, {})

    def test_what_is_told_last(self):
        near = rows.root_near
        raised(self, InvalidIndex, {"given": 3}, near, CUBIC, (0, 1), (1, 1), 3, 5)
        raised(self, InvalidIndex, {"given": 10 ** 40}, near, CUBIC, (0, 1), (1, 1), 10 ** 40, 5)
        raised(self, InvalidIndex, {"given": 0}, near, (3,), (0, 1), (1, 1), 0, 5)
        raised(self, Nought, {}, near, (), (0, 1), (1, 1), 3, 5)
        raised(self, NotAhead, {"given": (0, 1)}, near, (), (1, 1), (0, 1), 3, 5)
        raised(self, InvalidNumber, {"given": 0}, near, (), (1, 1), (0, 1), 3, 0)
        raised(self, InvalidIndex, {"given": -1}, near, (), (1, 1), (0, 1), -1, 0)
        raised(self, InvalidRow, {"given": None}, rows.remainder, None, ())
        raised(self, InvalidRow, {"given": [1]}, rows.row_product, (1,) * 13, [1])
        raised(self, NotAhead, {"given": (0, 1)}, rows.sign_tale, (), (1, 1), (0, 1))


if __name__ == "__main__":
    unittest.main()
