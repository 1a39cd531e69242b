"""Points (x, y, w) and lines (a, b, h), all of a * x + b * y = h; nothing is checked here."""

from math import gcd

from hullrests.ratios import common_divisor, ratio, sign_of


def place(x, y, w):
    """The point x / w to the right, y / w up, w above 0."""
    divisor = gcd(gcd(x, y), w)
    return (x // divisor, y // divisor, w // divisor)


def place_sum(point, other):
    """The sum of both."""
    x, y, w = point
    u, v, z = other
    return place(x * z + u * w, y * z + v * w, w * z)


def way_to(point, other):
    """The way from the point to the other one."""
    x, y, w = point
    u, v, z = other
    return place(u * w - x * z, v * w - y * z, w * z)


def place_times(point, fraction):
    """The fraction times the point."""
    x, y, w = point
    n, m = fraction
    return place(x * n, y * n, w * m)


def place_between(point, other, fraction):
    """The point plus the fraction times the way to the other one."""
    return place_sum(point, place_times(way_to(point, other), fraction))


def inner_of(point, other):
    """The inner product, a fraction."""
    return ratio(point[0] * other[0] + point[1] * other[1], point[2] * other[2])


def cross_of(point, other):
    """The cross product, a fraction."""
    return ratio(point[0] * other[1] - point[1] * other[0], point[2] * other[2])


def quarter_of(point):
    """The point turned a quarter."""
    return (-point[1], point[0], point[2])


def side_of(point, other, third):
    """1, 0 or -1: the third lies to the left of the way from the first to the other, on its line, to the right."""
    a, b, h = line_through_both(point, other)
    return sign_of(h * third[2] - a * third[0] - b * third[1])


def line_through_both(point, other):
    """The line (not reduced) through both; to the left of the way between them a * x + b * y is below h."""
    x, y, w = point
    u, v, z = other
    return (v * w - y * z, x * z - u * w, x * v - u * y)


def line_across(way, point):
    """The reduced line through the point, square to the way; ahead of it a * x + b * y is above h."""
    x, y, w = point
    a, b, h = way[0] * w, way[1] * w, way[0] * x + way[1] * y
    divisor = common_divisor((a, b, h))
    return (a // divisor, b // divisor, h // divisor)


def excess(line, point):
    """A number with the sign of a * x + b * y less h."""
    return line[0] * point[0] + line[1] * point[1] - line[2] * point[2]


def opposite_line(line):
    """The same line, with both its sides exchanged."""
    return (-line[0], -line[1], -line[2])


def crossing(line, point, other):
    """Where the stretch between two points on unlike sides of the line meets it."""
    ahead, behind = excess(line, point) * other[2], excess(line, other) * point[2]
    return place_between(point, other, ratio(ahead, ahead - behind))
