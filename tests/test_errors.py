"""The classes of errors."""

import unittest

from hullrests import errors
from tests.wrong import Odd

GIVEN = """InvalidFraction InvalidArea InvalidPoint InvalidDirection InvalidSection InvalidPolygon InvalidRimPoint
InvalidStand InvalidLog InvalidArc InvalidRow InvalidNumber InvalidNumbers InvalidIndex InvalidWord InvalidNote
InvalidName InvalidWish InvalidPhrase UnknownName NotAWorkshop NotInside OffSection Same Sunk Lifted NotAhead NotFirm
WrongArea""".split()
INDEX = "InvalidPoints InvalidNotes InUse Broken".split()
BARE = "NoArea NoBallastFits Nought NothingToUndo".split()
VALUES = (None, 0, -3, 10 ** 5000, True, "", "word", (), [1], {"a": 1}, (1, (2, 3)), b"x", Odd(), Odd, ValueError("x"))


class ErrorsTest(unittest.TestCase):
    def test_base(self):
        self.assertEqual((ValueError,), errors.HullError.__bases__)
        self.assertEqual({}, vars(errors.HullError()))

    def test_all_classes_and_no_others(self):
        told = {name for name, value in vars(errors).items() if isinstance(value, type)}
        self.assertEqual(set(GIVEN + INDEX + BARE + ["HullError"]), told)
        self.assertEqual((29, 4, 4), (len(GIVEN), len(INDEX), len(BARE)))

    def test_each_stands_under_the_base_alone(self):
        for name in GIVEN + INDEX + BARE:
            error = getattr(errors, name)
            self.assertEqual((errors.HullError,), error.__bases__)
            self.assertEqual(errors.__name__, error.__module__)
            self.assertEqual(name, error.__name__)

    def test_attributes(self):
        for names, attribute in ((GIVEN, "given"), (INDEX, "index")):
            for name in names:
                error = getattr(errors, name)
                self.assertIn("__init__", vars(error))
                for value in VALUES:
                    for made in (error(value), error(**{attribute: value})):
                        self.assertEqual([attribute], list(vars(made)))
                        self.assertIs(value, getattr(made, attribute))
                with self.assertRaises(TypeError):
                    error()
                with self.assertRaises(TypeError):
                    error(1, 2)

    def test_bare_ones(self):
        for name in BARE:
            self.assertEqual({}, vars(getattr(errors, name)()))

    def test_caught_by_their_bases(self):
        for name in GIVEN + INDEX:
            error = getattr(errors, name)
            for base in (error, errors.HullError, ValueError):
                with self.assertRaises(base) as caught:
                    raise error((1, 2))
                self.assertIs(error, caught.exception.__class__)
        for name in BARE:
            with self.assertRaises(errors.HullError):
                raise getattr(errors, name)()
        for first in GIVEN + INDEX + BARE:
            others = [other for other in GIVEN + INDEX + BARE if other != first]
            self.assertFalse(any(issubclass(getattr(errors, first), getattr(errors, other)) for other in others))


if __name__ == "__main__":
    unittest.main()
