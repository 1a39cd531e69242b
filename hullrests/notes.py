"""What noted stands still let of an unknown ballast."""

from hullrests.checks import check_note, check_notes, check_point, check_polygon, check_section, check_stand
from hullrests.errors import NoBallastFits
from hullrests.kinds import note_fits
from hullrests.sayings import all_keep, closed_cut, has_some, keeps_limits, mean_of, note_limits, part_within


def is_note(section, value):
    """Whether a value, whatever it is, is a note of the section."""
    check_section(section)
    return note_fits(section, value)


def keeps(section, ballast, note):
    """Whether the ballast keeps the note."""
    check_section(section)
    check_point(ballast)
    check_note(section, note)
    return keeps_limits(note_limits(section, note), ballast)


def _check_notes(section, lot, notes):
    """The checks of notes about a lot."""
    check_section(section)
    check_polygon(lot)
    check_notes(section, notes)


def _limits(section, notes):
    """The limits of all notes, those of each one in a list of its own."""
    return [note_limits(section, note) for note in notes]


def _joined(lists):
    """One list of all that the lists have."""
    found = []
    for each in lists:
        found.extend(each)
    return found


def fitting_part(section, lot, notes):
    """The least polygon that has all ballast of the lot that fits; None if none fits."""
    _check_notes(section, lot, notes)
    return part_within(lot, _joined(_limits(section, notes)))


def fitting_ballast(section, lot, notes):
    """A ballast that fits, the mean of this polygon's corners; None if none fits."""
    _check_notes(section, lot, notes)
    part = part_within(lot, _joined(_limits(section, notes)))
    return None if part is None else mean_of(part)


def _first_odd(lot, limits):
    """The first tuple of indexes, the shortest ones first, of notes that no ballast of the lot fits."""
    picks = [((), lot, [])]
    while picks:
        longer = []
        for pick, part, told in picks:
            for k in range(pick[-1] + 1 if pick else 0, len(limits)):
                cut, more = closed_cut(part, limits[k]), told + limits[k]
                if not has_some(cut, more):
                    return pick + (k,)
                longer.append((pick + (k,), cut, more))
        picks = longer
    return None


def at_odds(section, lot, notes):
    """The indexes of a least number of notes that no ballast of the lot fits; None if some ballast fits all notes."""
    _check_notes(section, lot, notes)
    limits = _limits(section, notes)
    return _first_odd(lot, limits) if part_within(lot, _joined(limits)) is None else None


def _fitting(lot, limits):
    """The part that fits the limits; NoBallastFits for nothing."""
    part = part_within(lot, limits)
    if part is None:
        raise NoBallastFits()
    return part


def status_of(section, lot, notes, note):
    """`sure`, `never` or `open`, as all ballast that fits the notes keeps this one, none does, or some."""
    _check_notes(section, lot, notes)
    check_note(section, note)
    limits, wanted = _joined(_limits(section, notes)), note_limits(section, note)
    part = _fitting(lot, limits)
    if all_keep(part, limits, wanted):
        return "sure"
    return "never" if part_within(lot, limits + wanted) is None else "open"


def words_left(section, lot, notes, stand):
    """The words that the stand has with some ballast that fits."""
    _check_notes(section, lot, notes)
    check_stand(section, stand)
    limits = _joined(_limits(section, notes))
    _fitting(lot, limits)
    found = []
    for word in ("left", "rest", "right"):
        if part_within(lot, limits + note_limits(section, (word, stand))) is not None:
            found.append(word)
    return tuple(found)


def _is_needless(lot, limits, k, others):
    """Whether all ballast that fits the notes with these indexes keeps the note k."""
    told = _joined([limits[j] for j in others])
    return all_keep(part_within(lot, told), told, limits[k])


def needless_notes(section, lot, notes):
    """The indexes of the notes that are needless beside all others."""
    _check_notes(section, lot, notes)
    limits = _limits(section, notes)
    _fitting(lot, _joined(limits))
    all_of = list(range(len(limits)))
    return tuple([k for k in all_of if _is_needless(lot, limits, k, [j for j in all_of if j != k])])


def kept_notes(section, lot, notes):
    """The indexes of the notes left if, from the first one on, each one needless beside those there is taken away."""
    _check_notes(section, lot, notes)
    limits = _limits(section, notes)
    _fitting(lot, _joined(limits))
    left = list(range(len(limits)))
    for k in range(len(limits)):
        others = [j for j in left if j != k]
        if _is_needless(lot, limits, k, others):
            left = others
    return tuple(left)


def tells_all(section, lot, notes, others):
    """Whether each ballast that fits the notes fits the others, too."""
    _check_notes(section, lot, notes)
    check_notes(section, others)
    limits = _joined(_limits(section, notes))
    return all_keep(_fitting(lot, limits), limits, _joined(_limits(section, others)))
