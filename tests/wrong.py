"""Wrong arguments of each kind, and checks of how functions take them."""

import inspect

from hullrests import errors


class Odd:
    """A value of no kind, which does not like to be asked."""

    def __eq__(self, other):
        raise RuntimeError("compared")

    def __len__(self):
        raise RuntimeError("measured")

    def __bool__(self):
        raise RuntimeError("tested")


DEEP = ()
for _ in range(12):
    DEEP = (DEEP,)

JUNK = (True, False, -1, "x", "", b"x", [], {}, Odd(), Odd, ((),), (None,), DEEP, (Odd(), Odd()), (Odd(), Odd(), Odd()))

FRACTIONS = JUNK + (None, 1, (), (1,), (1, 2, 3), [1, 2], (2, 4), (0, 2), (0, -1), (1, 0), (0, 0), (1, -2), (-1, -2),
                    (True, 2), (1, True), ("1", 2), (None, 1), ((1, 2), 2), (10 ** 40, 10 ** 30))
POINTS = JUNK + (None, 1, (), (1, 2), [0, 0, 1], (0, 0, 0), (0, 0, 2), (2, 4, 2), (1, 1, -1), (1, 1, 0), (True, 0, 1),
                 (0, True, 1), (0, 0, True), (0, 0, 1, 1), ("0", 0, 1), (0, None, 1), ((0, 0, 1),), (0, 0, 10 ** 50))
DIRECTIONS = JUNK + (None, 1, (), (0, 0), (0, 2), (2, 4), (-2, 0), [0, 1], (True, 0), (0, True), (0, 1, 1), (1,))
POLYGONS = JUNK + (
    None, (), (0, 0, 1), [(0, 0, 1)], ([0, 0, 1],), ((0, 0, 2),), ((0, 0, 1), (0, 0, 1)), ((1, 0, 1), (0, 0, 1)),
    ((0, 1, 1), (0, 0, 1)), ((0, 0, 1), (1, 1, 1), (1, 0, 1)), ((1, 0, 1), (1, 1, 1), (0, 0, 1)),
    ((0, 0, 1), (1, 0, 1), (2, 0, 1)), ((0, 0, 1), (1, 0, 1), (2, 0, 1), (0, 1, 1)),
    ((0, 0, 1), (2, 0, 1), (1, 1, 1), (1, 1, 1)), ((0, 0, 1), (4, 0, 1), (1, 1, 1), (0, 4, 1)),
    ((0, 0, 1), (1, 0, 1), (1, 1, 1), (0, 1, 1), (0, 0, 1)), ((0, 0, 1), (1, 0, 1), (1, 1, True)),
    # A star goes round twice.
    ((-10, 3, 1), (6, -8, 1), (0, 10, 1), (-6, -8, 1), (10, 3, 1)),
)
NINE = ((0, 0, 1), (1, -2, 1), (3, -4, 1), (6, -5, 1), (8, -4, 1), (9, -2, 1), (9, 1, 1), (7, 4, 1), (4, 5, 1))
SECTIONS = POLYGONS + (((0, 0, 1),), ((0, 0, 1), (1, 0, 1)), NINE, list(NINE[:4]))
ROWS = JUNK + (None, 1, [1], [], (0,), (1, 0), (0, 0), (True,), (1, True), ("1",), (1, None), (1,) * 14, ((1,),))
NUMBERS = JUNK + (None, 1, [1], [], (True,), (0, False), ("1",), (1, None), (0,) * 14, (1,) * 14, ((1,),))
MANY = JUNK + (None, 0, 10 ** 12 + 1, 10 ** 40, (), (1,), [1])
NO_COUNTS = JUNK + (None, (), (0,), [0], "0", -10 ** 40)
WORDS = JUNK + (None, 0, 1, "Left", "left ", "rest", "firm", "dry", (), ("left",), ["left"], b"left")


def areas(section, whole):
    """No areas for a section with the area that is told."""
    above = (whole[0] + whole[1], whole[1])
    return FRACTIONS + ((0, 1), (-1, 2), whole, above, (whole[0] * 10 ** 30 + 1, whole[1] * 10 ** 30))


def rims(section):
    """No rim points of a section."""
    many = len(section)
    return JUNK + (None, 0, (), (0,), (0, (0, 1), 0), (many, (0, 1)), (-1, (0, 1)), (0, (1, 1)), (0, (3, 2)), (0, (-1, 2)),
                   (0, (2, 4)), (0, (0, 2)), (True, (0, 1)), (0, (False, 1)), [0, (0, 1)], (0, [0, 1]), (0, 0), (0, None),
                   ("0", (0, 1)), (10 ** 30, (0, 1)))


def stands(section):
    """No stands of a section."""
    last = len(section) - 1
    right = ((0, (1, 2)), (1, (1, 2)))
    one_edge = (((0, (0, 1)), (0, (1, 2))), ((0, (0, 1)), (1, (0, 1))), ((1, (0, 1)), (0, (0, 1))),
                ((0, (1, 2)), (1, (0, 1))), ((1, (0, 1)), (0, (1, 2))), ((0, (1, 3)), (0, (1, 3))),
                ((2, (0, 1)), (2, (0, 1))), ((last, (1, 2)), (0, (0, 1))), ((0, (0, 1)), (last, (0, 1))))
    return JUNK + (None, (), right[0], list(right), right + right, (right[0], None)) + one_edge + tuple(
        (rim, right[1]) for rim in rims(section)) + tuple((right[0], rim) for rim in rims(section))


def arcs(section):
    """No arcs of a section."""
    rim = (0, (1, 2))
    return JUNK + ((), rim, [rim, rim], (rim,), (rim, rim, rim), (None, None), (rim, None), 0) + tuple(
        (each, rim) for each in rims(section)) + tuple((rim, each) for each in rims(section))


def logs(log):
    """No logs, beside a right one."""
    section, area, ballast = log
    return JUNK + (None, (), list(log), log[:2], log + (None,), section) + tuple(
        (each, area, ballast) for each in SECTIONS) + tuple(
        (section, each, ballast) for each in areas(section, (10 ** 6, 1))) + tuple(
        (section, area, each) for each in POINTS)


def notes(section):
    """No notes of a section."""
    stand = ((0, (1, 2)), (1, (1, 2)))
    sayings = ("Left", "left ", "", "lever", "dry", b"left", 0, None, True, ("left",), Odd())
    return JUNK + (None, (), "left", ("left",), ("left", stand, None), ["left", stand], (stand, "left"), stand) + tuple(
        (saying, stand) for saying in sayings) + tuple(("rest", each) for each in stands(section))


NAMES = tuple(each for each in JUNK if each.__class__ is not str) + (
    None, 1, "", "abcdefghijklm", "Beam", "bEam", "beamS", "a b", " a", "a ", "a-b", "a1", "1", "_", "a_b", "a.b", "a" * 99,
    ("a",), ["a"], b"a", {"a": 1})
MARKS = JUNK + (None, 0, (), (0,), (8, (0, 1)), (-1, (0, 1)), (0, (1, 1)), (0, (3, 2)), (0, (-1, 2)), (0, (2, 4)),
                (0, (0, 2)), (True, (0, 1)), (0, (False, 1)), [0, (0, 1)], (0, [0, 1]), (0, 0), (0, None), ("0", (0, 1)),
                (10 ** 30, (0, 1)), (0, (0, 1), 0), ((0, 1), 0))


def mark_pairs():
    """No pairs of marks."""
    mark = (7, (1, 2))
    return JUNK + ((), mark, [mark, mark], (mark,), (mark, mark, mark), (None, None), (mark, None), 0) + tuple(
        (each, mark) for each in MARKS) + tuple((mark, each) for each in MARKS)


def wishes():
    """No wishes."""
    pair, point, up, lot = ((0, (0, 1)), (7, (1, 2))), (1, 1, 1), (0, 1), ((0, 0, 1),)
    right = (("one pose", "a"), ("firm", "a", pair), ("unturned", "a", None, "left"), ("unseen", "a", point, "dry"),
             ("trap", "a", None, lot), ("level", "a", up))
    found = JUNK + (None, (), "one pose", ("one pose",), ("firm",), ("a", "one pose"), (None, "a"), (Odd(), "a"))
    for wish in right:
        found += (list(wish), wish + (None,), wish[:-1], wish[:1] + wish[2:], (wish[0] + " ",) + wish[1:],
                  (wish[0].upper(),) + wish[1:], (wish[0].encode(),) + wish[1:], ([wish[0]],) + wish[1:],
                  ("two poses",) + wish[1:], (wish,), wish * 2)
        found += tuple((wish[0], name) + wish[2:] for name in NAMES)
    found += tuple(("firm", "a", each) for each in mark_pairs() + (None,))
    found += tuple(("unturned", "a", each, "left") for each in mark_pairs())
    found += tuple(("unturned", "a", pair, each) for each in WORDS + ("wet",))
    found += tuple(("unseen", "a", each, "wet") for each in POINTS)
    found += tuple(("unseen", "a", point, each) for each in WORDS + ("rim", "left", "right", "Wet", b"dry", ("dry",))
                   if each.__class__ is not str or each != "dry")
    found += tuple(("trap", "a", each, lot) for each in mark_pairs())
    found += tuple(("trap", "a", pair, each) for each in POLYGONS)
    found += tuple(("level", "a", each) for each in DIRECTIONS)
    return found


def indexes(many):
    """No indexes of so many things."""
    return NO_COUNTS + (many, many + 1, -many - 1, 10 ** 40)


def raised(case, error, attributes, function, *args, **named):
    """Holds that the call raises this very error with these attributes."""
    try:
        result = function(*args, **named)
    except errors.HullError as wrong:
        case.assertIs(error, wrong.__class__)
        case.assertEqual(set(attributes), set(vars(wrong)))
        for name, value in attributes.items():
            kept = getattr(wrong, name)
            case.assertTrue(kept is value or kept.__class__ is value.__class__ and kept == value)
        return
    case.fail(f"{function.__name__} returned {result!r}")


def plain(case, value):
    """Holds that a value is made of whole numbers, words, True, False, None and tuples only."""
    case.assertIn(value.__class__, (int, str, bool, tuple, None.__class__))
    if isinstance(value, tuple):
        for part in value:
            plain(case, part)


def check_arguments(case, function, right, wrong):
    """Holds the signature, right arguments, each wrong one alone, and several at once.

    `right` tells a value of each parameter, in order; `wrong` for those of which an error is told its class and values.
    """
    names = list(right)
    case.assertEqual(names, list(inspect.signature(function).parameters))
    told = function(*right.values())
    plain(case, told)
    case.assertEqual(told, function(**{name: right[name] for name in reversed(names)}))
    for name, (error, values) in wrong.items():
        for k, value in enumerate(values):
            args = {**right, name: value}
            raised(case, error, {"given": value}, function, *args.values())
            if k < 9:
                raised(case, error, {"given": value}, function, **args)
    for k, name in enumerate(names):
        if name in wrong:
            for at in range(6):
                args = dict(right)
                for later in names[k:]:
                    if later in wrong:
                        args[later] = wrong[later][1][at % len(wrong[later][1])]
                raised(case, wrong[name][0], {"given": args[name]}, function, *args.values())
