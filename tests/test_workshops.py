"""Workshops, beside a model of the tests' own."""

import random
import unittest

from hullrests.cuts import up_of
from hullrests.draughts import turning_profile
from hullrests.drypoints import stand_with
from hullrests.errors import Broken, HullError, InUse, InvalidIndex, InvalidLog, InvalidName, InvalidWish, NothingToUndo
from hullrests.errors import UnknownName
from hullrests.lots import words_at
from hullrests.metacentres import ballast_for
from hullrests.righting import righting_row
from hullrests.rows import sign_tale
from hullrests.rests import comes_to, rest_at, rests
from hullrests.stands import stand_from, stretches
from hullrests.workshops import Workshop
from tests import reckoning, wrong
from tests.reckoning import Maker
from tests.shapes import beam, deck, deep, flat, half, hexagon, house, hub, keel, octagon, raft, sail, side, span, square, wedge
from tests.wrong import raised

LOW = (raft, (2, 1), (1, 0, 1))
SLIDE = (raft, (2, 1), (23, 23, 24))
BOX = (raft, (1, 1), (2, 1, 2))
LOGS = (beam, deep, wedge, LOW, SLIDE, BOX, (house, (7, 1), (2, 3, 2)), (hexagon, (5, 1), (0, -1, 1)),
        (octagon, (3, 1), (3, 2, 2)), (sail, (1, 1), (4, 4, 3)), (raft, (2, 1), (1, 1, 1)))
NAMES = ("a", "beam", "raft", "twelveletter")
MARK = (3, (1, 2))


def is_stand(section, stand):
    """Whether a pair of marks is a stand of the section."""
    many = len(section)
    if any(edge >= many for edge, share in stand):
        return False
    edges = [{edge} | ({(edge - 1) % many} if share == (0, 1) else set()) for edge, share in stand]
    return not edges[0] & edges[1]


def holds(wish, log):
    """Whether a wish holds, told by other functions than those that the workshop asks."""
    (section, area, ballast), told = log, wish[2:]
    marks = told[0] if wish[0] in ("unturned", "trap") and told[0] is not None else ()
    if any(edge >= len(section) for edge, share in marks):
        return False
    if wish[0] == "one pose":
        kinds = rests(log)
        return sorted(kinds) == ["firm", "tipping"]
    if wish[0] == "firm":
        if not is_stand(section, told[0]) or reckoning.area(reckoning.wet(section, told[0])) != reckoning.number(area):
            return False
        return rest_at(log, told[0]) is not None and rests(log)[comes_to(log, told[0])] == "firm"
    if wish[0] == "unturned":
        side_of = 1 if told[1] == "left" else -1
        return not any(side_of in sign_tale(righting_row(log, index), low, high)
                       for index, low, high in stretches(section, area, told[0]))
    if wish[0] == "unseen":
        return stand_with(section, area, told[0], None, told[1]) is None
    if wish[0] == "trap":
        ends = zip(told[0] or (), ("left", "right"))
        return not any(word in words_at(section, stand_from(section, area, end), told[1]) for end, word in ends)
    return all(row == () for low, high, row in turning_profile(section, told[0], ballast))


class Model:
    """What a workshop should be."""

    def __init__(self):
        self.logs, self.wishes, self.past = {}, [], []

    def keep(self):
        """Keeps how it is, before a change."""
        self.past.append((dict(self.logs), list(self.wishes)))

    def put(self, name, log):
        for k, wish in enumerate(self.wishes):
            if wish[1] == name and not holds(wish, log):
                return Broken, k
        self.keep()
        self.logs[name] = log

    def drop(self, name):
        if name not in self.logs:
            return UnknownName, name
        named = [k for k, wish in enumerate(self.wishes) if wish[1] == name]
        if named:
            return InUse, named[0]
        self.keep()
        del self.logs[name]

    def wish(self, wish):
        if wish[1] not in self.logs:
            return UnknownName, wish[1]
        if not holds(wish, self.logs[wish[1]]):
            return Broken, len(self.wishes)
        self.keep()
        self.wishes.append(wish)

    def lift(self, index):
        if index not in range(len(self.wishes)):
            return InvalidIndex, index
        self.keep()
        del self.wishes[index]

    def undo(self):
        if not self.past:
            return NothingToUndo, None
        logs, wishes = self.past.pop()
        self.logs, self.wishes = dict(logs), list(wishes)


class Stop(Exception):
    """What a block ends with."""


class WorkshopsTest(unittest.TestCase):
    def same(self, shop, model):
        """Holds that a workshop is as the model."""
        self.assertEqual(tuple(sorted(model.logs)), shop.names)
        self.assertEqual(tuple(model.wishes), shop.wishes)
        self.assertEqual(len(model.past), len(shop))
        for name in NAMES:
            self.assertIs(name in model.logs, name in shop)
            if name in model.logs:
                self.assertEqual(model.logs[name], shop.named(name))
            else:
                raised(self, UnknownName, {"given": name}, shop.named, name)

    def call(self, shop, model, name, *args):
        """The same call to both; holds that they answer alike."""
        told = getattr(model, name)(*args)
        if told is None:
            self.assertIsNone(getattr(shop, name)(*args))
            return True
        error, value = told
        attributes = {"given": value} if error in (UnknownName, InvalidIndex) else {"index": value}
        raised(self, error, {} if error is NothingToUndo else attributes, getattr(shop, name), *args)
        return False

    def wishes(self, chance):
        """A drawn wish, which may hold or not."""
        name = chance.choice(NAMES)
        mark = (chance.choice((0, 1, 2, 3, 3, 7)), chance.choice(((0, 1), (1, 2), (1, 4), (3, 4))))
        arc = chance.choice((None, span, ((3, (1, 4)), (3, (3, 8))), (mark, MARK), (MARK, mark), (mark, mark)))
        return chance.choice((
            ("one pose", name), ("firm", name, chance.choice((flat, side, (mark, MARK), ((0, (0, 1)), (2, (0, 1)))))),
            ("unturned", name, arc, chance.choice(("left", "right"))),
            ("unseen", name, chance.choice(((1, 0, 1), (1, 2, 1), (2, 3, 2), (9, 9, 1))), chance.choice(("dry", "wet"))),
            ("trap", name, arc, chance.choice((keel, hub, deck, ((1, 1, 2),), raft))),
            ("level", name, chance.choice(((0, 1), (1, 0), (0, -1), (1, 1), (2, 1))))))

    def step(self, chance, shop, model, seen):
        """One drawn call."""
        name, what = chance.choice(NAMES), chance.choice(("put", "put", "wish", "wish", "wish", "drop", "lift", "undo"))
        args = {"put": (name, chance.choice(LOGS)), "drop": (name,), "lift": (chance.randint(-1, 6),), "undo": ()}
        wish = self.wishes(chance)
        is_done = self.call(shop, model, what, *args.get(what, (wish,)))
        seen.add((what, is_done))
        if what == "wish":
            seen.add((wish[0], is_done))
        if chance.random() < 0.2:
            self.same(shop, model)

    def test_long_runs(self):
        seen = set()
        for seed in range(12):
            chance, shop, model = random.Random(seed), Workshop(), Model()
            for turn in range(250):
                self.step(chance, shop, model, seen)
                if chance.random() < 0.06:
                    self.draw_trial(chance, shop, model, seen, 0)
            self.same(shop, model)
            # Step by step back to the empty workshop, and once more.
            while len(shop) > 0:
                self.call(shop, model, "undo")
                self.same(shop, model)
            self.assertEqual(((), ()), (shop.names, shop.wishes))
            self.assertIs(True, bool(shop))
            raised(self, NothingToUndo, {}, shop.undo)
            self.same(shop, model)
        forms = ("one pose", "firm", "unturned", "unseen", "trap", "level")
        for what in forms + ("put", "drop", "wish", "lift", "undo"):
            self.assertLessEqual({(what, True), (what, False)}, seen)

    def draw_trial(self, chance, shop, model, seen, depth):
        """A trial with drawn calls, other trials among them, that ends well or with an exception."""
        kept = (dict(model.logs), list(model.wishes), list(model.past))
        ends_well = chance.random() < 0.5

        def action(held):
            self.assertIs(shop, held)
            for turn in range(chance.randint(0, 12)):
                self.step(chance, shop, model, seen)
                if depth < 3 and chance.random() < 0.15:
                    self.draw_trial(chance, shop, model, seen, depth + 1)
            if not ends_well:
                raise error
            return error

        error = chance.choice((Stop(), ValueError("x"), KeyError(1), KeyboardInterrupt(), Broken(3)))
        try:
            if chance.random() < 0.5:
                self.assertIs(error, shop.tried(action))
            else:
                with shop.trial() as held:
                    action(held)
            self.assertTrue(ends_well)
        except error.__class__ as caught:
            self.assertIs(error, caught)
            self.assertFalse(ends_well)
            model.logs, model.wishes, model.past = kept
        self.same(shop, model)

    def made(self):
        """A workshop with some logs and wishes."""
        shop = Workshop()
        for name, log in (("beam", beam), ("raft", BOX), ("wedge", wedge), ("low", LOW)):
            shop.put(name, log)
        shop.wish(("unturned", "beam", ((0, (1, 2)), (1, (0, 1))), "left"))
        shop.wish(("firm", "raft", ((3, (3, 4)), (1, (1, 4)))))
        shop.wish(("one pose", "low"))
        return shop

    def told(self, shop):
        """All that a workshop tells."""
        return shop.names, shop.wishes, len(shop), [shop.named(name) for name in shop.names]

    def test_each_wish(self):
        # A log for which it holds, and one for which it does not.
        hatch, mark = (2, 3, 2), ((3, (3, 4)), (1, (1, 4)))
        half_raft, tall = (raft, (1, 2), (1, 1, 1)), (raft, (1, 1), (1, 3, 1))
        for wish, yes, no in (
                (("one pose", "a"), LOW, beam), (("one pose", "a"), deep, SLIDE),
                (("firm", "a", mark), BOX, tall), (("firm", "a", flat), LOW, (raft, (2, 1), (1, 1, 1))),
                (("firm", "a", flat), (raft, (2, 1), (6, 5, 6)), (raft, (2, 1), (7, 5, 6))),
                (("firm", "a", flat), LOW, (raft, (1, 1), (1, 0, 1))), (("firm", "a", flat), LOW, wedge),
                (("unturned", "a", ((0, (1, 2)), (1, (0, 1))), "left"), beam, (square, (1, 2), (1, 0, 2))),
                (("unturned", "a", None, "left"), None, beam), (("unturned", "a", None, "right"), None, LOW),
                (("unturned", "a", (MARK, MARK), "right"), (raft, (1, 1), (0, 1, 2)), BOX),
                (("unseen", "a", hatch, "wet"), half_raft, LOW), (("unseen", "a", (1, 1, 1), "dry"), LOW, half_raft),
                (("unseen", "a", (1, 1, 1), "wet"), LOW, (raft, (3, 1), (1, 1, 1))),
                (("trap", "a", span, keel), LOW, (raft, (1, 2), (1, 0, 1))), (("trap", "a", None, raft), beam, None),
                (("trap", "a", span, hub), None, LOW), (("trap", "a", span, keel), (raft, (2, 1), (99, 99, 1)), wedge),
                (("level", "a", (0, 1)), LOW, (raft, (2, 1), (1000001, 1, 1000000))),
                (("level", "a", (1, 1)), (half, (1, 8), (1, 1, 7)), deep)):
            shop = Workshop()
            if yes is not None:
                self.assertTrue(holds(wish, yes))
                shop.put("a", yes)
                self.assertIsNone(shop.wish(wish))
                self.assertEqual((wish,), shop.wishes)
                if no is not None:
                    raised(self, Broken, {"index": 0}, shop.put, "a", no)
                shop.put("b", beam)
                self.assertEqual((yes, 3), (shop.named("a"), len(shop)))
                shop.lift(0)
            if no is not None:
                self.assertFalse(holds(wish, no))
                shop.put("a", no)
                raised(self, Broken, {"index": 0}, shop.wish, wish)
                self.assertEqual((), shop.wishes)

    def test_rests_at_the_metacentre(self):
        # With the firmness 0 the signs on both sides tell the kind.
        stand = stand_from(raft, (2, 1), (3, (3, 4)))
        shop = Workshop()
        shop.put("slide", SLIDE)
        raised(self, Broken, {"index": 0}, shop.wish, ("firm", "slide", stand))
        shop.put("slide", (raft, (2, 1), ballast_for(raft, stand, (1, 10 ** 50))))
        shop.wish(("firm", "slide", stand))
        raised(self, Broken, {"index": 0}, shop.put, "slide", SLIDE)

    def test_marks_that_are_none_of_the_section(self):
        shop = Workshop()
        shop.put("wedge", wedge)
        stand = ((2, (1, 2)), (0, (1, 2)))
        shop.wish(("firm", "wedge", stand))
        for edge in (3, 7):
            mark = (edge, (0, 1))
            for wish in (("firm", "wedge", (mark, (0, (1, 2)))), ("firm", "wedge", ((2, (1, 2)), mark)),
                         ("unturned", "wedge", (mark, (2, (1, 2))), "left"),
                         ("unturned", "wedge", ((2, (1, 2)), mark), "right"), ("trap", "wedge", (mark, mark), hub),
                         ("trap", "wedge", ((0, (1, 2)), mark), ((1, 1, 3),))):
                raised(self, Broken, {"index": 1}, shop.wish, wish)
        # Pairs of marks on one edge are no stands.
        for stand in (((0, (0, 1)), (0, (1, 2))), ((0, (1, 2)), (0, (1, 2))), ((0, (0, 1)), (2, (1, 2)))):
            raised(self, Broken, {"index": 1}, shop.wish, ("firm", "wedge", stand))
        # A stand of the section, with another area.
        raised(self, Broken, {"index": 1}, shop.wish, ("firm", "wedge", ((2, (1, 3)), (0, (1, 2)))))
        # Another section may have the marks.
        shop.put("eight", (octagon, (7, 2), (3, 3, 2)))
        self.assertIsNone(shop.wish(("trap", "eight", ((7, (1, 2)), (7, (1, 2))), ((3, 3, 2),))))
        self.assertEqual((2, 4), (len(shop.wishes), len(shop)))
        raised(self, Broken, {"index": 1}, shop.put, "eight", wedge)

    def test_the_first_wish_that_would_not_hold(self):
        shop = self.made()
        shop.wish(("firm", "low", flat))
        shop.wish(("level", "low", (0, 1)))
        for log, index in ((beam, 2), ((raft, (2, 1), (1, -9, 1)), None), ((raft, (2, 1), (11, 0, 10)), 3),
                           ((raft, (1, 1), (1, 0, 1)), 3)):
            before = self.told(shop)
            if index is None:
                shop.put("low", log)
                self.assertEqual(log, shop.named("low"))
                shop.undo()
            else:
                raised(self, Broken, {"index": index}, shop.put, "low", log)
            self.assertEqual(before, self.told(shop))
        raised(self, Broken, {"index": 5}, shop.wish, ("one pose", "beam"))
        raised(self, InUse, {"index": 2}, shop.drop, "low")
        shop.lift(2)
        raised(self, InUse, {"index": 2}, shop.drop, "low")
        self.assertEqual(("level", "low", (0, 1)), shop.wishes[3])
        shop.lift(2)
        shop.lift(2)
        self.assertIsNone(shop.drop("low"))
        self.assertEqual(("beam", "raft", "wedge"), shop.names)
        raised(self, UnknownName, {"given": "low"}, shop.wish, ("one pose", "low"))

    def test_names(self):
        shop = Workshop()
        for name in ("a", "z", "twelveletter", "none", "put", "beam", "abcdefghijkl", "zzzzzzzzzzzz"):
            self.assertNotIn(name, shop)
            self.assertIsNone(shop.put(name, beam))
            self.assertIn(name, shop)
        self.assertEqual(("a", "abcdefghijkl", "beam", "none", "put", "twelveletter", "z", "zzzzzzzzzzzz"), shop.names)
        before = self.told(shop)
        for name in wrong.NAMES:
            raised(self, InvalidName, {"given": name}, shop.put, name, beam)
            raised(self, InvalidName, {"given": name}, shop.put, log=None, name=name)
            self.assertIs(False, name in shop)
            for method in (shop.drop, shop.named):
                raised(self, UnknownName, {"given": name}, method, name)
                raised(self, UnknownName, {"given": name}, method, name=name)
        for name in ("b", "beams", "zz"):
            for method in (shop.drop, shop.named):
                raised(self, UnknownName, {"given": name}, method, name)
        for value in wrong.JUNK + (None, beam, (), shop):
            self.assertIs(False, value in shop)
        self.assertEqual(before, self.told(shop))

    def test_arguments(self):
        shop = self.made()
        before = self.told(shop)
        for log in wrong.logs(wedge):
            raised(self, InvalidLog, {"given": log}, shop.put, "new", log)
        raised(self, InvalidLog, {"given": None}, shop.put, log=None, name="low")
        for wish in wrong.wishes():
            raised(self, InvalidWish, {"given": wish}, shop.wish, wish)
        raised(self, InvalidWish, {"given": None}, shop.wish, wish=None)
        raised(self, InvalidWish, {"given": ("one pose", "Low")}, shop.wish, ("one pose", "Low"))
        for index in wrong.indexes(3):
            raised(self, InvalidIndex, {"given": index}, shop.lift, index)
        raised(self, InvalidIndex, {"given": 3}, shop.lift, index=3)
        for wish in (("one pose", "no"), ("firm", "no", (MARK, MARK)), ("unturned", "no", (MARK, MARK), "left"),
                     ("unseen", "no", (1, 1, 1), "wet"), ("trap", "no", None, hub), ("level", "no", (0, 1))):
            raised(self, UnknownName, {"given": "no"}, shop.wish, wish)
        self.assertEqual(before, self.told(shop))
        self.assertIsNone(shop.put(log=beam, name="new"))
        self.assertIsNone(shop.wish(wish=("trap", "new", None, hub)))
        self.assertIsNone(shop.lift(index=3))
        self.assertIsNone(shop.drop(name="new"))
        self.assertEqual(LOW, shop.named(name="low"))
        self.assertEqual(7, shop.tried(action=len) - 4)

    def test_undo(self):
        shop = Workshop()
        raised(self, NothingToUndo, {}, shop.undo)
        told = [self.told(shop)]
        steps = (lambda: shop.put("a", beam), lambda: shop.put("a", beam), lambda: shop.put("b", LOW),
                 lambda: shop.wish(("one pose", "b")), lambda: shop.wish(("one pose", "b")), lambda: shop.lift(0),
                 lambda: shop.put("a", deep), lambda: shop.drop("a"), lambda: shop.put("b", deep))
        for k, step in enumerate(steps):
            step()
            told.append(self.told(shop))
            self.assertEqual(k + 1, len(shop))
        # What an error leaves is as it was, what can be undone, too.
        for method, args, error in ((shop.put, ("b", beam), {"index": 0}), (shop.drop, ("b",), {"index": 0}),
                                    (shop.wish, (("one pose", "a"),), {"given": "a"}), (shop.lift, (1,), {"given": 1})):
            with self.assertRaises(HullError) as caught:
                method(*args)
            self.assertEqual(error, vars(caught.exception))
            self.assertEqual(told[-1], self.told(shop))
        while len(told) > 1:
            self.assertEqual(told.pop(), self.told(shop))
            self.assertIsNone(shop.undo())
        self.assertEqual(((), (), 0, []), self.told(shop))
        for _ in range(2):
            raised(self, NothingToUndo, {}, shop.undo)
        shop.put("a", wedge)
        self.assertEqual((("a",), (), 1, [wedge]), self.told(shop))

    def test_trials(self):
        shop = self.made()
        before = self.told(shop)
        # A call alone changes nothing, now or later.
        shop.trial()
        self.assertEqual(before, self.told(shop))
        kept = shop.trial()
        shop.put("later", beam)
        after = self.told(shop)
        with self.assertRaises(Stop):
            with kept as held:
                self.assertIs(shop, held)
                shop.drop("later")
                shop.undo()
                shop.undo()
                self.assertNotIn("later", shop)
                raise Stop
        self.assertEqual(after, self.told(shop))
        with shop.trial():
            shop.drop("later")
        self.assertEqual(len(after[0]) - 1, len(shop.names))
        shop.undo()
        shop.undo()
        self.assertEqual(before, self.told(shop))

    def test_trials_within_trials(self):
        shop = Workshop()
        shop.put("a", beam)
        error, inner = Stop(), ValueError("inner")
        with self.assertRaises(Stop) as caught:
            with shop.trial() as outer:
                outer.put("b", beam)
                with self.assertRaises(ValueError) as passed:
                    with outer.trial():
                        outer.undo()
                        outer.undo()
                        self.assertEqual((), outer.names)
                        raise inner
                self.assertIs(inner, passed.exception)
                self.assertEqual((("a", "b"), 2), (outer.names, len(outer)))
                with shop.trial():
                    shop.put("c", beam)
                self.assertEqual((("a", "b", "c"), 3), (outer.names, len(outer)))
                raise error
        self.assertIs(error, caught.exception)
        self.assertEqual((("a",), 1), (shop.names, len(shop)))
        # One and the same trial, begun again within itself and behind itself.
        trial = shop.trial()
        with self.assertRaises(Stop):
            with trial:
                shop.put("b", beam)
                with trial:
                    shop.put("c", beam)
                raise Stop
        self.assertEqual((("a",), 1), (shop.names, len(shop)))
        with trial:
            shop.put("b", beam)
        with self.assertRaises(Stop):
            with trial:
                shop.drop("a")
                raise Stop
        self.assertEqual((("a", "b"), 2), (shop.names, len(shop)))

    def test_errors_of_the_workshop_within_a_trial(self):
        shop = self.made()
        before = self.told(shop)
        for name, call in (("Broken", lambda: shop.put("low", beam)), ("InUse", lambda: shop.drop("low")),
                           ("UnknownName", lambda: shop.named("x")), ("InvalidWish", lambda: shop.wish(1))):
            with self.assertRaises(HullError) as caught:
                with shop.trial():
                    shop.put("more", beam)
                    call()
            self.assertEqual(name, caught.exception.__class__.__name__)
            self.assertEqual(before, self.told(shop))
        # An error that the block catches itself undoes nothing.
        with shop.trial():
            shop.put("more", beam)
            raised(self, InUse, {"index": 2}, shop.drop, "low")
        self.assertIn("more", shop)

    def test_tried(self):
        shop = Workshop()
        thing = object()
        self.assertIs(thing, shop.tried(lambda held: thing))
        self.assertIs(shop, shop.tried(lambda held: held))
        self.assertIsNone(shop.tried(lambda held: held.put("a", beam)))
        self.assertEqual((("a",), 1), (shop.names, len(shop)))

        def fails(held):
            held.undo()
            held.put("b", beam)
            raise error

        for error in (Stop(), HullError(), KeyboardInterrupt(), GeneratorExit()):
            with self.assertRaises(error.__class__) as caught:
                shop.tried(fails)
            self.assertIs(error, caught.exception)
            self.assertEqual((("a",), 1), (shop.names, len(shop)))
        self.assertEqual(("a",), shop.tried(lambda held: held.tried(lambda again: again.names)))

    def test_each_stands_alone(self):
        one, other = Workshop(), Workshop()
        self.assertTrue(one == one and one != other and not one == other and one != Odd() and one is not None)
        one.put("a", beam)
        self.assertEqual(((), 0), (other.names, len(other)))
        self.assertTrue(bool(one) and bool(other))
        told, names, wishes = one.named("a"), one.names, one.wishes
        one.wish(("trap", "a", None, hub))
        one.put("b", deep)
        self.assertEqual((beam, ("a",), ()), (told, names, wishes))
        self.assertIsNot(one.trial(), one.trial())
        self.assertFalse(one.trial() == one.trial())
        self.assertTrue(one.trial())

    def test_wishes_of_drawn_logs(self):
        # Stands that fractions tell, and wishes that hold only where these are not.
        maker = Maker(51)
        for section in (half, square, house, hexagon) + tuple(maker.polygon(3 + k % 6) for k in range(8)):
            area = maker.area(section)
            stand, shop = stand_from(section, area, maker.rim(section)), Workshop()
            for share, told in (((1, 7), True), ((-1, 7), False)):
                log = (section, area, ballast_for(section, stand, share))
                shop.put("log", log)
                wish = ("firm", "log", stand)
                if told:
                    self.assertIsNone(shop.wish(wish))
                    shop.lift(0)
                else:
                    raised(self, Broken, {"index": 0}, shop.wish, wish)
            up, log = up_of(section, stand), shop.named("log")
            for wish in (("level", "log", up), ("unseen", "log", log[2], "dry"), ("unseen", "log", section[0], "wet"),
                         ("unturned", "log", (stand[0], stand[0]), "left"), ("trap", "log", stand, (log[2],))):
                if holds(wish, log):
                    self.assertIsNone(shop.wish(wish))
                else:
                    raised(self, Broken, {"index": len(shop.wishes)}, shop.wish, wish)


class Odd:
    """Something that does not like to be compared."""

    def __eq__(self, other):
        return False


if __name__ == "__main__":
    unittest.main()
