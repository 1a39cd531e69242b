"""Drawn claims for the tests of the checker and of the certificates, and whether each one is so, told in other ways."""

from hullrests.draughts import turning_profile
from hullrests.drypoints import wet_tale
from hullrests.levers import word_at
from hullrests.notes import fitting_part
from hullrests.rests import rests
from hullrests.righting import righting_row
from hullrests.rows import sign_tale
from hullrests.stands import stand_from, stretches
from tests.reckoning import Maker
from tests.shapes import ALL, beam, deep, half, house, octagon, raft, sail, square, wedge

SLIDE = (raft, (2, 1), (23, 23, 24))
LOGS = (beam, deep, wedge, SLIDE, (raft, (2, 1), (1, 0, 1)), (house, (7, 1), (2, 3, 2)), (octagon, (3, 1), (3, 2, 2)),
        (sail, (1, 1), (4, 4, 3)), (half, (1, 3), (2, 2, 9)), (square, (1, 3), (7, 1, 14)))
SAYINGS = ("left", "right", "rest", "firm", "tipping", "sliding")
OTHERS = {"unturned": "turned", "turned": "unturned", "one pose": "several poses", "several poses": "one pose",
          "unseen": "seen", "seen": "unseen", "trap": "no trap", "no trap": "trap", "level": "not level",
          "not level": "level", "fits": "at odds", "at odds": "fits"}


def other_of(claim):
    """The claim that excludes this one."""
    return (OTHERS[claim[0]],) + claim[1:]


def is_turned(log, arc, word):
    """Whether a log has a word at some stand of an arc."""
    side = 1 if word == "left" else -1
    return any(side in sign_tale(righting_row(log, index), low, high)
               for index, low, high in stretches(log[0], log[1], arc))


def is_trap(section, area, lot, arc):
    """Whether an arc is a trap, corner by corner."""
    ends = zip(arc or (), ("left", "right"))
    return not any(word_at(section, corner, stand_from(section, area, end)) == word for end, word in ends for corner in lot)


def is_so(claim):
    """Whether a claim is so."""
    form, told = claim[0], claim[1:]
    if form in ("turned", "seen", "several poses", "no trap", "not level", "at odds"):
        return not is_so(other_of(claim))
    if form == "unturned":
        return not is_turned(*told)
    if form == "one pose":
        return sorted(rests(told[0])) == ["firm", "tipping"]
    if form == "rests":
        return rests(told[0]) == told[1]
    if form == "unseen":
        section, area, point, arc, word = told
        return word not in wet_tale(section, area, point, arc)
    if form == "trap":
        return is_trap(*told)
    if form == "level":
        return not any(row for low, high, row in turning_profile(*told))
    return fitting_part(*told) is not None


class Claims:
    """Draws claims, the same ones each time."""

    def __init__(self, seed, parts=4):
        self.maker, self.parts = Maker(seed), parts
        self.random = self.maker.random

    def section(self):
        """A section."""
        return self.random.choice(ALL + (self.maker.polygon(self.random.randint(3, 8)),))

    def log(self):
        """A log."""
        if self.random.random() < 0.5:
            return self.random.choice(LOGS)
        section = self.section()
        return (section, self.maker.area(section), self.maker.inner_point(section))

    def arc(self, section):
        """An arc: None, one rim point, or two."""
        first, last = self.maker.rim(section, self.parts), self.maker.rim(section, self.parts)
        return self.random.choice((None, (first, last), (first, last), (last, first), (first, first)))

    def lot(self, section):
        """A lot: a point, a stretch or more."""
        many = self.random.choice((1, 2, 3, 4))
        return self.random.choice((self.maker.polygon(many, 3), (self.maker.inner_point(section),)))

    def notes(self, section, many):
        """Notes of a section."""
        found = []
        for _ in range(many):
            stand = stand_from(section, self.maker.area(section, 4), self.maker.rim(section, self.parts))
            found.append((self.random.choice(SAYINGS[:5]), stand))
        return tuple(found)

    def told(self, form):
        """What a claim of this form tells behind its word."""
        log, section = self.log(), self.section()
        area, maker, choice = self.maker.area(section), self.maker, self.random.choice
        if form in ("unturned", "turned"):
            return (log, self.arc(log[0]), choice(("left", "right")))
        if form in ("one pose", "several poses"):
            return (log,)
        if form in ("unseen", "seen"):
            return (section, area, choice((maker.inner_point(section), maker.point())), self.arc(section),
                    choice(("dry", "wet")))
        if form in ("trap", "no trap"):
            return (section, area, self.lot(section), self.arc(section))
        if form in ("level", "not level"):
            return choice(((raft, choice(((0, 1), (1, 0), (1, 1))), (1, 1, 1)), (house, (0, 1), (2, 9, 1)),
                           (section, choice(((0, 1), (1, -2), (3, 1))), maker.inner_point(section)), (sail, (1, 1), (7, 7, 3))))
        return (section, section, self.notes(section, self.random.randint(0, 5)))

    def claim(self, form):
        """A claim of this form, which may be so or not."""
        if form == "rests":
            log = self.log()
            kinds = rests(log)
            return ("rests", log, self.random.choice((kinds, kinds, kinds[1:], kinds + ("firm",), kinds[::-1])))
        return (form,) + self.told(form)
