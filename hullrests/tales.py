"""The signs of rows along neighbouring parts, and where each one begins; nothing is checked here.

A part is a tuple that ends with LOW, HIGH and ROW: a row on a stretch. The rows of two parts that follow one another
have the same sign where they meet.
"""

from hullrests.roots import chain_of, root_floor, tale_of


def _signs_on(k, part):
    """The triples (SIGN, PART, ROOT) along the part k: ROOT tells at which root the sign begins, -1 at LOW."""
    low, high, row = part[-3:]
    found, root = [], -1
    for sign in tale_of(row, low, high):
        if sign == 0 and row:
            root = root + 1
        found.append((sign, k, root))
    return found


def signs_along(parts):
    """The triples (SIGN, PART, ROOT) along all parts, neighbours with one sign told once."""
    found = []
    for k, part in enumerate(parts):
        for told in _signs_on(k, part):
            if not found or found[-1][0] != told[0]:
                found.append(told)
    return found


def without_first(parts, told):
    """What is told without the sign at the first LOW alone."""
    return told[1:] if told[0][0] == 0 and parts[0][-1] else told


def without_last(parts, told):
    """What is told without the sign at the last HIGH alone."""
    return told[:-1] if told[-1][0] == 0 and parts[-1][-1] else told


def begins_near(parts, told, many):
    """Where one of the triples begins: (n, IS_JUST), from n / many on, below (n + 1) / many."""
    sign, k, root = told
    low, high, row = parts[k][-3:]
    if root < 0:
        n, m = low
        return (n * many // m, n * many % m == 0)
    return root_floor(chain_of(row), low, high, root, many)
