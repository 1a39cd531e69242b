"""The tests' own numbers a + b * root(d), with which heels are reckoned whose stands no fractions tell."""

from fractions import Fraction

from tests import reckoning
from tests.reckoning import height, sign, spot


class Surd:
    """The number a + b * root(d), d from 0 on; those with unlike d are not mixed."""

    def __init__(self, a, b=0, d=0):
        self.a, self.b, self.d = Fraction(a), Fraction(b), Fraction(d)

    def made(self, other):
        """The other number as one of this kind."""
        return other if isinstance(other, Surd) else Surd(other, 0, self.d)

    def root(self, other):
        """What stands under the root of both."""
        assert self.b == 0 or other.b == 0 or self.d == other.d
        return self.d if self.b != 0 else other.d

    def __add__(self, other):
        other = self.made(other)
        return Surd(self.a + other.a, self.b + other.b, self.root(other))

    def __mul__(self, other):
        other = self.made(other)
        d = self.root(other)
        return Surd(self.a * other.a + self.b * other.b * d, self.a * other.b + self.b * other.a, d)

    def __truediv__(self, other):
        other = self.made(other)
        size = other.a ** 2 - other.b ** 2 * other.d
        return self * Surd(other.a / size, -other.b / size, other.d)

    def __neg__(self):
        return self * -1

    def __sub__(self, other):
        return self + -self.made(other)

    def __rsub__(self, other):
        return -self + other

    __radd__, __rmul__ = __add__, __mul__

    def sign(self):
        """1, 0 or -1."""
        one, other = sign(self.a), sign(self.b) * sign(self.d)
        if one * other >= 0:
            return one or other
        return one * sign(self.a ** 2 - self.b ** 2 * self.d)

    def __lt__(self, other):
        return (self - other).sign() < 0

    def __gt__(self, other):
        return (self - other).sign() > 0

    def __le__(self, other):
        return not self > other

    def __ge__(self, other):
        return not self < other


def water_height(section, up, area):
    """The height of the water line with this area under it, as a Surd."""
    marks = sorted({height(up, spot(corner)) for corner in section})
    for low, high in zip(marks, marks[1:]):
        sizes = [reckoning.area(reckoning.below(section, up, level)) if level > marks[0] else Fraction(0)
                 for level in (low, (low + high) / 2, high)]
        if sizes[0] <= area < sizes[2]:
            # With t from 0 to 1 between both marks the area is c + b t + a t t.
            c, a = sizes[0], 2 * (sizes[2] + sizes[0] - 2 * sizes[1])
            b = sizes[2] - c - a
            d = b * b - 4 * a * (c - area)
            t = Surd((area - c) / b) if a == 0 else Surd(-b, 1, d) / (2 * a)
            return low + (high - low) * t
    raise AssertionError


def heel(section, up, area):
    """The shape under water at a heel, the left end the first place, the right one the second: places of Surds."""
    level = water_height(section, up, area)
    corners = [spot(corner) for corner in section]
    over = [height(up, corner) - level for corner in corners]
    shape, left, right = [], None, None
    for k, here in enumerate(corners):
        j = (k + 1) % len(corners)
        if over[k].sign() < 0:
            shape.append(tuple(Surd(part) for part in here))
        if over[k].sign() * over[j].sign() < 0 or over[k].sign() == 0:
            share = over[k] / (over[k] - over[j]) if over[k].sign() != 0 else Surd(0)
            place = tuple(here[d] + share * (corners[j][d] - here[d]) for d in (0, 1))
            shape.append(place)
            if over[j].sign() < 0:
                left = (k, share, place)
            else:
                right = (k, share, place)
    return shape, left, right


def lever_sign(section, ballast, up, area):
    """The sign of the lever at a heel, by triangles."""
    shape, left, right = heel(section, up, area)
    x, y, size = Surd(0), Surd(0), Surd(0)
    for here, there in zip(shape[1:], shape[2:]):
        part = reckoning.cross(shape[0], here, there)
        size = size + part
        x, y = x + part * (shape[0][0] + here[0] + there[0]), y + part * (shape[0][1] + here[1] + there[1])
    assert (size - 2 * area).sign() == 0
    g, way = spot(ballast), [right[2][d] - left[2][d] for d in (0, 1)]
    return (way[0] * (x - 3 * size * g[0]) + way[1] * (y - 3 * size * g[1])).sign()
