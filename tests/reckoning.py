"""The tests' own reckoning, with Fraction and by triangles, apart from the package's way of doing it."""

import functools
import math
import random
from fractions import Fraction


def number(pair):
    """The number of a fraction."""
    return Fraction(pair[0], pair[1])


def pair(value):
    """The fraction of a number."""
    value = Fraction(value)
    return (value.numerator, value.denominator)


def spot(point):
    """The coordinates of a point."""
    return (Fraction(point[0], point[2]), Fraction(point[1], point[2]))


def point(x, y):
    """The point with these coordinates."""
    x, y = Fraction(x), Fraction(y)
    w = math.lcm(x.denominator, y.denominator)
    return (int(x * w), int(y * w), w)


def cross(o, a, b):
    """Twice the triangle of three places."""
    return (a[0] - o[0]) * (b[1] - o[1]) - (a[1] - o[1]) * (b[0] - o[0])


def rim_spot(section, rim):
    """The place of a rim point."""
    edge, share = rim
    x, y = spot(section[edge])
    u, v = spot(section[(edge + 1) % len(section)])
    share = number(share)
    return (x + share * (u - x), y + share * (v - y))


def cut_off(section, over):
    """What of a section is not above a line, side by side; `over` tells how far above it a place is."""
    corners = [spot(corner) for corner in section]
    found = []
    for here, there in zip(corners, corners[1:] + corners[:1]):
        a, b = over(here), over(there)
        if a <= 0:
            found.append(here)
        if a * b < 0:
            share = a / (a - b)
            found.append((here[0] + share * (there[0] - here[0]), here[1] + share * (there[1] - here[1])))
    return found


def wet(section, stand):
    """What lies to the right of the water line."""
    left, right = rim_spot(section, stand[0]), rim_spot(section, stand[1])
    return cut_off(section, lambda place: cross(left, right, place))


def height(up, place):
    """The height of a place along an up."""
    return up[0] * place[0] + up[1] * place[1]


@functools.lru_cache(maxsize=20000)
def below(section, up, level):
    """What of a section is not higher than a level."""
    return cut_off(section, lambda place: height(up, place) - level)


def triangles(shape):
    """The triangles from the mean of the corners, as (area, middle)."""
    x = sum(p[0] for p in shape) / len(shape)
    y = sum(p[1] for p in shape) / len(shape)
    told = []
    for here, there in zip(shape, shape[1:] + shape[:1]):
        told.append((cross((x, y), here, there) / 2, ((x + here[0] + there[0]) / 3, (y + here[1] + there[1]) / 3)))
    return told


def area(shape):
    """The area, by triangles."""
    return sum(size for size, middle in triangles(shape))


def middle(shape):
    """The middle of the weight, by triangles."""
    size = area(shape)
    return (sum(a * m[0] for a, m in triangles(shape)) / size, sum(a * m[1] for a, m in triangles(shape)) / size)


def way(section, stand):
    """The way from the left end to the right one."""
    left, right = rim_spot(section, stand[0]), rim_spot(section, stand[1])
    return (right[0] - left[0], right[1] - left[1])


@functools.lru_cache(maxsize=20000)
def water(section, stand):
    """The way from the left end to the right one, and the middle of what is under water."""
    return way(section, stand), middle(wet(section, stand))


def lever(section, ballast, stand):
    """The lever, by triangles."""
    g = spot(ballast)
    c, b = water(section, stand)
    return c[0] * (b[0] - g[0]) + c[1] * (b[1] - g[1])


def firmness(section, ballast, stand):
    """The firmness, by triangles."""
    (x, y), (u, v), c = metacentre(section, stand), spot(ballast), way(section, stand)
    return -c[1] * (x - u) + c[0] * (y - v)


def rise(section, ballast, stand):
    """The rise, by triangles."""
    g = spot(ballast)
    c, b = water(section, stand)
    return -c[1] * (g[0] - b[0]) + c[0] * (g[1] - b[1])


@functools.lru_cache(maxsize=20000)
def metacentre(section, stand):
    """The metacentre, by triangles."""
    c, shape = way(section, stand), wet(section, stand)
    b, share = middle(shape), (c[0] ** 2 + c[1] ** 2) / (12 * area(shape))
    return (b[0] - share * c[1], b[1] + share * c[0])


def sign(value):
    """1, 0 or -1."""
    return (value > 0) - (value < 0)


def word(value):
    """The word of a lever."""
    return {1: "left", 0: "rest", -1: "right"}[sign(value)]


def within(polygon, place):
    """Whether a polygon has a place, its rim counted."""
    corners = [spot(corner) for corner in polygon]
    if len(corners) == 1:
        return corners[0] == place
    if len(corners) == 2:
        a, b = corners
        if cross(a, b, place) != 0:
            return False
        return min(a, b) <= place <= max(a, b)
    return all(cross(a, b, place) >= 0 for a, b in zip(corners, corners[1:] + corners[:1]))


def told_once(items):
    """The items, neighbours that are alike told once."""
    found = []
    for item in items:
        if not found or found[-1] != item:
            found.append(item)
    return found


class Maker:
    """Makes sections, areas, points and lots; the same ones each time."""

    def __init__(self, seed):
        self.random = random.Random(seed)

    def fraction(self, most, parts):
        """A fraction from -most up to most with a denominator up to parts."""
        m = self.random.randint(1, parts)
        return Fraction(self.random.randint(-most * m, most * m), m)

    def point(self, most=6, parts=4):
        """A point."""
        return point(self.fraction(most, parts), self.fraction(most, parts))

    def polygon(self, corners, most=6, parts=3):
        """A polygon with so many corners."""
        while True:
            shape = hull([spot(self.point(most, parts)) for _ in range(corners + corners // 3)])
            if len(shape) == corners:
                return tuple(point(x, y) for x, y in shape)

    def area(self, section, parts=12):
        """An area for a log with this section."""
        m = self.random.randint(2, parts)
        return pair(area([spot(corner) for corner in section]) * Fraction(self.random.randint(1, m - 1), m))

    def share(self, parts=9):
        """A share of an edge."""
        m = self.random.randint(1, parts)
        return pair(Fraction(self.random.randint(0, m - 1), m))

    def rim(self, section, parts=9):
        """A rim point."""
        return (self.random.randrange(len(section)), self.share(parts))

    def arc(self, section):
        """An arc."""
        return self.random.choice([None, (self.rim(section), self.rim(section)), (self.rim(section, 2),) * 2])

    def inner_point(self, section, parts=6):
        """A point within a section."""
        weights = [self.random.randint(0, parts) for _ in section]
        weights[0] += 1
        total = sum(weights)
        places = [spot(corner) for corner in section]
        return point(sum(w * p[0] for w, p in zip(weights, places)) / total,
                     sum(w * p[1] for w, p in zip(weights, places)) / total)


def hull(places):
    """The convex hull, by wrapping: from the least corner on always to the one furthest to the right."""
    places = sorted(set(places))
    found = [places[0]]
    while True:
        best = None
        for place in places:
            if place == found[-1]:
                continue
            if best is None:
                best = place
                continue
            turn = cross(found[-1], best, place)
            if turn < 0 or (turn == 0 and distance(found[-1], place) > distance(found[-1], best)):
                best = place
        if best is None or best == found[0]:
            return found
        found.append(best)


def distance(a, b):
    """The square of the distance."""
    return (a[0] - b[0]) ** 2 + (a[1] - b[1]) ** 2
