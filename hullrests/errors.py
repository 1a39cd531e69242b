"""All errors of the package; each one keeps what it is made with."""


class HullError(ValueError):
    """The base of all errors of this package."""


class InvalidFraction(HullError):
    """No fraction, or none that fits here."""

    def __init__(self, given):
        self.given = given


class InvalidArea(HullError):
    """No fraction above 0 and below the area of the section."""

    def __init__(self, given):
        self.given = given


class InvalidPoint(HullError):
    """No point."""

    def __init__(self, given):
        self.given = given


class InvalidDirection(HullError):
    """No direction."""

    def __init__(self, given):
        self.given = given


class InvalidSection(HullError):
    """No section."""

    def __init__(self, given):
        self.given = given


class InvalidPolygon(HullError):
    """No polygon."""

    def __init__(self, given):
        self.given = given


class InvalidRimPoint(HullError):
    """No rim point of the section."""

    def __init__(self, given):
        self.given = given


class InvalidStand(HullError):
    """No stand of the section."""

    def __init__(self, given):
        self.given = given


class InvalidLog(HullError):
    """No log."""

    def __init__(self, given):
        self.given = given


class InvalidArc(HullError):
    """No arc of the section."""

    def __init__(self, given):
        self.given = given


class InvalidRow(HullError):
    """No row, or a product with too many numbers."""

    def __init__(self, given):
        self.given = given


class InvalidNumber(HullError):
    """No whole number from 1 to 10 ** 12."""

    def __init__(self, given):
        self.given = given


class InvalidNumbers(HullError):
    """No tuple of at most 13 whole numbers."""

    def __init__(self, given):
        self.given = given


class InvalidIndex(HullError):
    """No index of what is told."""

    def __init__(self, given):
        self.given = given


class InvalidWord(HullError):
    """None of the words that fit here."""

    def __init__(self, given):
        self.given = given


class InvalidNote(HullError):
    """No note of the section."""

    def __init__(self, given):
        self.given = given


class InvalidName(HullError):
    """No name for a log."""

    def __init__(self, given):
        self.given = given


class InvalidWish(HullError):
    """No wish."""

    def __init__(self, given):
        self.given = given


class InvalidPhrase(HullError):
    """No phrase for a console."""

    def __init__(self, given):
        self.given = given


class UnknownName(HullError):
    """A name that the workshop does not have."""

    def __init__(self, given):
        self.given = given


class NotAWorkshop(HullError):
    """No workshop."""

    def __init__(self, given):
        self.given = given


class NotInside(HullError):
    """A point that is not strictly inside the section."""

    def __init__(self, given):
        self.given = given


class OffSection(HullError):
    """A height, or a point, at which no water line of the section lies."""

    def __init__(self, given):
        self.given = given


class Same(HullError):
    """An area that should be another one."""

    def __init__(self, given):
        self.given = given


class Sunk(HullError):
    """An area that is too great for the log to float."""

    def __init__(self, given):
        self.given = given


class Lifted(HullError):
    """An area that is not above 0."""

    def __init__(self, given):
        self.given = given


class NotAhead(HullError):
    """The end of a span that lies below its beginning."""

    def __init__(self, given):
        self.given = given


class NotFirm(HullError):
    """The index of a rest that is not firm."""

    def __init__(self, given):
        self.given = given


class WrongArea(HullError):
    """The area of a stand, which is not the log's."""

    def __init__(self, given):
        self.given = given


class InvalidPoints(HullError):
    """The first element that is wrong; None for no tuple or an empty one."""

    def __init__(self, index):
        self.index = index


class InvalidNotes(HullError):
    """The first element that is wrong; None for no tuple."""

    def __init__(self, index):
        self.index = index


class InUse(HullError):
    """The first wish that names the log."""

    def __init__(self, index):
        self.index = index


class Broken(HullError):
    """The first wish that would not hold."""

    def __init__(self, index):
        self.index = index


class NoArea(HullError):
    """The points have no area."""


class NoBallastFits(HullError):
    """No ballast fits the notes."""


class Nought(HullError):
    """The row is nought."""


class NothingToUndo(HullError):
    """There is no change to take back."""
