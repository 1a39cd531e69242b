"""Roots of rows: counted, parted, found, and compared, without a rounded number; nothing is checked here."""

from hullrests.polys import row_common, row_growth, row_quotient, row_sturm, row_times, sign_at
from hullrests.ratios import midway, order, ratio


def told_once(items):
    """The items, neighbours that are alike told once."""
    return [item for k, item in enumerate(items) if k == 0 or item != items[k - 1]]


def chain_of(row):
    """The Sturm row of a row not nought, made of its unlike roots alone: so it counts up to a root, too."""
    chain = row_sturm(row)
    if len(chain[-1]) == 1:
        return chain
    return row_sturm(row_quotient(row, chain[-1]))


def changes_along(signs):
    """How often the sign changes along the signs, 0 left out."""
    return len(told_once([sign for sign in signs if sign != 0])) - 1


def changes_at(chain, at):
    """How often the sign of the worth at a fraction changes along the chain."""
    return changes_along([sign_at(row, at) for row in chain])


def _mark(chain, at):
    """The triple of a fraction, how often the sign changes there along the chain, and 1 for a root there, or 0."""
    return (at, changes_at(chain, at), 1 if sign_at(chain[0], at) == 0 else 0)


def _from_mark_to(mark, other):
    """How many unlike roots there are from one mark up to another one."""
    return mark[1] - other[1] + mark[2]


def count_roots(chain, low, high):
    """How many unlike roots there are from low up to high."""
    return _from_mark_to(_mark(chain, low), _mark(chain, high))


def count_below(chain, low, high):
    """How many unlike roots there are from low on, below high."""
    end = _mark(chain, high)
    return _from_mark_to(_mark(chain, low), end) - end[2]


def _parting(chain, low, high):
    """Ascending marks from low to high; from one of them up to the next there is at most one root."""
    marks, ahead = [_mark(chain, low)], [_mark(chain, high)]
    while ahead:
        if _from_mark_to(marks[-1], ahead[-1]) < 2:
            marks.append(ahead.pop())
        else:
            ahead.append(_mark(chain, midway(marks[-1][0], ahead[-1][0])))
    return marks


def samples(row, low, high):
    """Fractions from low up to high, some of them wherever between two roots, for a row not nought."""
    return [mark[0] for mark in _parting(chain_of(row), low, high)]


def sample_with(row, low, high, sign):
    """A fraction from low up to high at which the row has this sign, 1 or -1; None if there is none."""
    if not row:
        return None
    for at in samples(row, low, high):
        if sign_at(row, at) == sign:
            return at
    return None


def sample_inside(row, low, high, sign):
    """The same above low and below high."""
    if not row:
        return None
    # With roots at low and high, too, there is a sample between these and the others.
    ended = row_times(row, row_times((-low[0], low[1]), (-high[0], high[1])))
    for at in samples(ended, low, high)[1:-1]:
        if sign_at(row, at) == sign:
            return at
    return None


def sign_beside(row, at, way):
    """The sign of a row not nought just behind a fraction (the way 1) or just before it (-1)."""
    turn = 1
    while sign_at(row, at) == 0:
        row, turn = row_growth(row), turn * way
    return sign_at(row, at) * turn


def tale_of(row, low, high):
    """The signs of the worths from low up to high, neighbours that are alike told once."""
    if not row:
        return [0]
    marks = _parting(chain_of(row), low, high)
    signs = [sign_at(row, low)]
    for mark, other in zip(marks, marks[1:]):
        if mark[2] == 0 and other[2] == 0 and _from_mark_to(mark, other) == 1:
            signs.append(0)
        signs.append(sign_at(row, other[0]))
    return told_once(signs)


def tale_below(row, low, high):
    """The same for a row not nought, with high, which is above low, left out."""
    found = tale_of(row, low, high)
    return found[:-1] if found[-1] == 0 else found


def _count_up_to(chain, low, high, at):
    """How many of the roots from low up to high are up to a fraction."""
    if order(at, low) < 0:
        return 0
    return count_roots(chain, low, at if order(at, high) < 0 else high)


def root_floor(chain, low, high, index, many):
    """Of the roots from low up to high that with the index: (n, IS_JUST), from n / many on, below (n + 1) / many."""
    below = low[0] * many // low[1] - 1
    above = -(-high[0] * many // high[1])
    while above - below > 1:
        at = (below + above) // 2
        if _count_up_to(chain, low, high, ratio(at, many)) > index:
            above = at
        else:
            below = at
    end = ratio(above, many)
    if sign_at(chain[0], end) == 0 and order(end, high) <= 0 and _count_up_to(chain, low, high, end) == index + 1:
        return (above, True)
    return (below, False)


def _sign_at_root(chain, low, high, row, own):
    """The sign of a row, own its chain, at the only root from low up to high of the first chain."""
    if count_roots(own, low, high) > 0:
        common = row_common(chain[0], row)
        if count_roots(row_sturm(common), low, high) > 0:
            return 0
    # They have no root in common, so the stretch shrinks until the row has none on it.
    while count_roots(own, low, high) > 0:
        at = midway(low, high)
        if count_roots(chain, low, at) > 0:
            high = at
        else:
            low = at
    return sign_at(row, low)


def _none_below_at_root(chain, low, high, marked):
    """Whether none of the marked rows is below 0 at the only root from low up to high of the chain."""
    for row, own in marked:
        if _sign_at_root(chain, low, high, row, own) < 0:
            return False
    return True


def none_below_somewhere(rows, low, high):
    """Whether there is a number from low up to high at which the worth of none of the rows is below 0."""
    told = [row for row in rows if row]
    for at in (low, high):
        if all([sign_at(row, at) >= 0 for row in told]):
            return True
    # Where this holds on a stretch, the stretch ends at low or high or at a root of one of the rows.
    marked = [(row, chain_of(row)) for row in told]
    for chain in [own for row, own in marked]:
        marks = _parting(chain, low, high)
        for mark, other in zip(marks, marks[1:]):
            if _from_mark_to(mark, other) == 1 and _none_below_at_root(chain, mark[0], other[0], marked):
                return True
    return False
