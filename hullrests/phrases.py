"""Numbers, fractions, points and logs as texts, and the phrases for a console; nothing raises an error here."""

from hullrests.kinds import fraction_fits, log_fits, name_fits, point_fits
from hullrests.polygons import hull_of

DIGITS = "0123456789"
ALONE = ("undo", "names")
NAMING = ("drop", "log", "rests")


def read_number(text):
    """The whole number that `str` writes so; None if there is none."""
    digits = text[1:] if text.startswith("-") else text
    if not digits or any([sign not in DIGITS for sign in digits]):
        return None
    if digits.startswith("0") and text != "0":
        return None
    return int(text)


def _read_numbers(parts):
    """The whole numbers of some texts, None for what is none."""
    return tuple([read_number(part) for part in parts])


def read_fraction(text):
    """The fraction with this text; None if there is none."""
    found = _read_numbers(text.split("/"))
    return found if fraction_fits(found) else None


def read_point(text):
    """The point with this text; None if there is none."""
    found = _read_numbers(text.split(" "))
    return found if point_fits(found) else None


def _read_log(text):
    """The log of an area, a ballast and one to eight points, its section being their hull; None if there is none."""
    parts = text.split("; ")
    area, points = read_fraction(parts[0]), [read_point(part) for part in parts[1:]]
    if not 2 <= len(points) <= 9 or None in points:
        return None
    found = (hull_of(points[1:]), area, points[0])
    return found if log_fits(found) else None


def _read_rim(text):
    """The pair of a whole number and a fraction with this text; None if there is none."""
    parts = text.split(" ")
    if len(parts) != 2:
        return None
    found = (read_number(parts[0]), read_fraction(parts[1]))
    return None if None in found else found


def read_phrase(line):
    """The triple (WORD, NAME, TOLD) of a phrase, with None for what it does not tell; None if it is none."""
    head, colon, tail = line.partition(": ")
    words = head.split(" ")
    if colon == "" and len(words) == 1 and words[0] in ALONE:
        return (words[0], None, None)
    if len(words) != 2 or not name_fits(words[1]):
        return None
    word, name = words
    if colon == "":
        return (word, name, None) if word in NAMING else None
    told = None
    if word == "put":
        told = _read_log(tail)
    elif word == "word":
        told = _read_rim(tail)
    return None if told is None else (word, name, told)


def fraction_text(fraction):
    """The text of a fraction."""
    n, m = fraction
    return f"{n}/{m}"


def point_text(point):
    """The text of a point."""
    x, y, w = point
    return f"{x} {y} {w}"


def log_text(log):
    """The text of a log's area, its ballast and its section's corners."""
    section, area, ballast = log
    return "; ".join([fraction_text(area), point_text(ballast)] + [point_text(corner) for corner in section])
