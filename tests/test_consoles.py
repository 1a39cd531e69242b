"""Consoles, beside a twin workshop that is told the same by its methods."""

import math
import random
import re
import unittest
from fractions import Fraction

from hullrests.consoles import Console
from hullrests.errors import Broken, HullError, InUse, InvalidPhrase, NotAWorkshop, NothingToUndo, UnknownName
from hullrests.levers import word_at
from hullrests.rests import rests
from hullrests.sections import area_of, polygon_of
from hullrests.stands import stand_from
from hullrests.workshops import Workshop
from tests import wrong
from tests.reckoning import Maker, number, pair
from tests.shapes import ALL, beam, deep, hub, octagon, raft, square, wedge
from tests.wrong import raised

WHOLE = "(?:0|-?[1-9][0-9]*)"
FRACTION, POINT, NAME = f"{WHOLE}/{WHOLE}", f"{WHOLE} {WHOLE} {WHOLE}", "[a-z]{1,12}"
FORMS = {"put": f"put ({NAME}): ({FRACTION}); ({POINT})((?:; {POINT}){{1,8}})", "drop": f"drop ({NAME})", "undo": "undo",
         "names": "names", "log": f"log ({NAME})", "rests": f"rests ({NAME})",
         "word": f"word ({NAME}): ({WHOLE}) ({FRACTION})"}
PUT_BEAM = "put beam: 1/2; 1 1 2; 0 0 1; 1 0 1; 1 1 1; 0 1 1"


def read(text):
    """The reduced tuple of whole numbers of a text, with the last one above 0, or None."""
    numbers = tuple(int(part) for part in re.split("[ /]", text))
    return numbers if numbers[-1] > 0 and math.gcd(*numbers) == 1 else None


def write(name, area, ballast, points):
    """A line that puts a log under a name."""
    texts = [" ".join(str(part) for part in each) for each in (ballast,) + tuple(points)]
    return f"put {name}: {area[0]}/{area[1]}; " + "; ".join(texts)


class Bad(Exception):
    """What a line is that is none."""


class Twin:
    """What a console should answer, by patterns and by the methods of a workshop."""

    def __init__(self):
        self.shop = Workshop()

    def say(self, line):
        for word, form in FORMS.items():
            found = re.fullmatch(form, line)
            if found:
                return getattr(self, "say_" + word)(*found.groups())
        raise Bad

    def say_put(self, name, area, ballast, rest):
        area, ballast = read(area), read(ballast)
        points = [read(part) for part in rest.split("; ")[1:]]
        if None in points or area is None or ballast is None:
            raise Bad
        section = polygon_of(tuple(points))
        if len(section) < 3 or not 0 < number(area) < number(area_of(section)):
            raise Bad
        self.shop.put(name, (section, area, ballast))
        return "done"

    def say_drop(self, name):
        self.shop.drop(name)
        return "done"

    def say_undo(self):
        self.shop.undo()
        return "done"

    def say_names(self):
        return " ".join(self.shop.names) if self.shop.names else "none"

    def say_log(self, name):
        section, (n, m), ballast = self.shop.named(name)
        return f"{n}/{m}; " + "; ".join(" ".join(map(str, each)) for each in (ballast,) + section)

    def say_rests(self, name):
        return " ".join(rests(self.shop.named(name)))

    def say_word(self, name, edge, share):
        edge, share = int(edge), read(share)
        if share is None:
            raise Bad
        section, area, ballast = self.shop.named(name)
        if edge not in range(len(section)) or not 0 <= number(share) < 1:
            raise Bad
        return word_at(section, ballast, stand_from(section, area, (edge, share)))


class ConsolesTest(unittest.TestCase):
    def both(self, console, twin, line):
        """Holds that a console answers a line as its twin does."""
        try:
            told = twin.say(line)
        except Bad:
            raised(self, InvalidPhrase, {"given": line}, console.say, line)
            return "bad"
        except HullError as error:
            raised(self, error.__class__, vars(error), console.say, line)
            return "error"
        answer = console.say(line)
        self.assertEqual(told, answer)
        self.assertIs(str, answer.__class__)
        return "told"

    def same(self, shop, twin):
        """Holds that both workshops are alike."""
        self.assertEqual((twin.shop.names, len(twin.shop)), (shop.names, len(shop)))
        self.assertEqual([twin.shop.named(name) for name in shop.names], [shop.named(name) for name in shop.names])

    def lines(self, chance, maker):
        """A drawn line of one of the forms."""
        name = chance.choice(("a", "b", "beam", "twelveletter"))
        word = chance.choice(("put", "put", "put", "drop", "undo", "names", "log", "rests", "word", "word"))
        if word == "put":
            points = [maker.point(4, 2) for _ in range(chance.randint(1, 8))]
            shape = polygon_of(tuple(points))
            size = maker.area(shape) if len(shape) > 2 and chance.random() < 0.9 else (chance.randint(-3, 99), 1)
            return write(name, size, maker.point(), points)
        if word == "word":
            share = pair(Fraction(chance.randint(-1, 7), 7))
            return f"word {name}: {chance.randint(-1, 8)} {share[0]}/{share[1]}"
        return word if word in ("undo", "names") else f"{word} {name}"

    def test_drawn_lines(self):
        seen = set()
        for seed in range(6):
            chance, maker, twin, shop = random.Random(seed), Maker(seed), Twin(), Workshop()
            console = Console(shop)
            for turn in range(120):
                line = self.lines(chance, maker)
                seen.add((line.split(" ")[0], self.both(console, twin, line)))
                # The same line with a sign more, less, or another one.
                for _ in range(4):
                    at = chance.randint(0, len(line))
                    sign = chance.choice("0123456789/-;: abzAZ+._" + line)
                    changed = line[:at] + chance.choice(("", sign)) + line[at + chance.randint(0, 1):]
                    seen.add(("changed", self.both(console, twin, changed)))
                self.same(shop, twin)
        words = ("put", "drop", "log", "rests", "word")
        self.assertLessEqual({(word, "told") for word in words + ("undo", "names", "changed")}, seen)
        self.assertLessEqual({("put", "bad"), ("word", "bad"), ("changed", "bad"), ("changed", "error")}, seen)
        self.assertLessEqual({(word, "error") for word in words[1:]}, seen)

    def test_by_hand(self):
        shop = Workshop()
        console = Console(shop)
        self.assertEqual("none", console.say("names"))
        self.assertEqual("done", console.say(PUT_BEAM))
        self.assertEqual(beam, shop.named("beam"))
        self.assertEqual("1/2; 1 1 2; 0 0 1; 1 0 1; 1 1 1; 0 1 1", console.say("log beam"))
        self.assertEqual(" ".join(("firm", "tipping") * 4), console.say("rests beam"))
        told = [console.say(f"word beam: {edge}") for edge in ("0 0/1", "0 1/4", "0 1/2", "0 3/4", "3 1/3")]
        self.assertEqual(["rest", "left", "rest", "right", "left"], told)
        # Points in any order, equal ones and inner ones too, numbers below 0.
        self.assertEqual("done", console.say("put a: 1/8; -7 3 5; 0 1 1; 1 1 4; 1 0 1; 0 0 1; 0 1 1; 1 0 1; 1 1 2; 0 1 2"))
        self.assertEqual((wedge[0], (1, 8), (-7, 3, 5)), shop.named("a"))
        self.assertEqual("1/8; -7 3 5; 0 0 1; 1 0 1; 0 1 1", console.say("log a"))
        self.assertEqual("a beam", console.say("names"))
        self.assertEqual("done", console.say("drop a"))
        self.assertEqual("beam", console.say("names"))
        self.assertEqual(["done"] * 3, [console.say("undo") for _ in range(3)])
        self.assertEqual(("none", 0), (console.say("names"), len(shop)))
        raised(self, NothingToUndo, {}, console.say, "undo")
        console.say("put none: 1/4; 1 1 2; 0 0 1; 1 0 1; 1 1 1")
        self.assertEqual("none", console.say(line="names"))

    def test_numbers(self):
        shop = Workshop()
        console = Console(shop)
        good = "put a: 7/2; -1 0 3; 0 0 1; 10 0 1; 0 10 1"
        self.assertEqual("done", console.say(good))
        for old, new in (("7/2", "+7/2"), ("7/2", "07/2"), ("7/2", "7/02"), ("7/2", "14/4"), ("7/2", "7/-2"),
                         ("7/2", "-7/-2"), ("7/2", "7/0"), ("7/2", "0/1"), ("7/2", "-7/2"), ("7/2", "50/1"),
                         ("7/2", "7"), ("7/2", "7/2/1"), ("7/2", "7 /2"), ("7/2", "7/ 2"), ("7/2", "7 2"), ("7/2", ""),
                         ("7/2", "/2"), ("7/2", "7/"), ("7/2", "7.5/2"), ("7/2", "7_0/2"), ("7/2", "1e1/2"),
                         ("7/2", "a/2"), ("7/2", "7/2 "), ("7/2", "--7/2"), ("7/2", "-/2"), ("7/2", "3.5"),
                         ("-1 0 3", "-1 -0 3"), ("-1 0 3", "-1 00 3"), ("-1 0 3", "-01 0 3"), ("-1 0 3", "-1 0 03"),
                         ("-1 0 3", "+1 0 3"), ("-1 0 3", "1 0 -3"), ("-1 0 3", "-2 0 6"), ("-1 0 3", "-1 0"),
                         ("-1 0 3", "-1 0 3 1"), ("-1 0 3", "-1  0 3"), ("-1 0 3", "-1 0  3"), ("-1 0 3", " -1 0 3"),
                         ("-1 0 3", "-1 0 3 "), ("-1 0 3", "-1,0,3"), ("-1 0 3", ""), ("-1 0 3", "0 0 0"),
                         ("-1 0 3", "0 0 2"), ("-1 0 3", "- 1 0 3"), ("-1 0 3", "(-1 0 3)"), ("0 0 1", "0 0 -1"),
                         ("0 0 1", "0 0 01"), ("10 0 1", "20 0 2"), ("10 0 1", "0xa 0 1"), ("; 0 0 1", ";0 0 1"),
                         ("; 0 0 1", " ; 0 0 1"), ("; 0 0 1", ";  0 0 1"), ("; 0 0 1", "; ; 0 0 1"), ("0 10 1", "0 10 1;"),
                         ("0 10 1", "0 10 1; "), ("0 10 1", "0 10 1; 5 5"), ("0 10 1", "0 0 1"), ("a:", "a :"),
                         ("a:", "a:  "), ("a: ", "a:"), ("a: ", "a "), ("a: ", ": "), ("a: ", "A: "), ("a: ", "a b: "),
                         ("a: ", "a1: "), ("a: ", "abcdefghijklm: "), ("put a", "put  a"), ("put a", " put a"),
                         ("put a", "Put a"), ("put a", "PUT a"), ("put", "puts"), ("put a", "a put"), ("put ", "put"),
                         ("put a: 7/2", "put a: put a: 7/2"), (": ", ": : "), ("put a: ", "")):
            line = good.replace(old, new, 1)
            self.assertNotEqual(good, line)
            raised(self, InvalidPhrase, {"given": line}, console.say, line)
        self.assertEqual(1, len(shop))
        for area in ("1/1", "49/1", "99/2", f"{10 ** 60 - 1}/{2 * 10 ** 58}", f"1/{10 ** 300}"):
            self.assertEqual("done", console.say(good.replace("7/2", area)))
            self.assertEqual(area, console.say("log a").split("; ")[0])

    def test_how_many_points(self):
        shop, corners = Workshop(), ["0 1 1", "1 0 1", "2 0 1", "3 1 1", "3 2 1", "2 3 1", "1 3 1", "0 2 1", "1 1 1"]
        console, chance = Console(shop), random.Random(5)
        for many in range(1, 10):
            for turn in range(6):
                picked = chance.sample(corners, many)
                line = "put eight: 1/4; 1 1 1; " + "; ".join(picked)
                section = polygon_of(tuple(read(each) for each in picked[:8]))
                if 3 <= many <= 8 and len(section) > 2 and number(area_of(section)) > Fraction(1, 4):
                    self.assertEqual("done", console.say(line))
                    self.assertEqual((section, (1, 4), (1, 1, 1)), shop.named("eight"))
                else:
                    raised(self, InvalidPhrase, {"given": line}, console.say, line)
        self.assertEqual("done", console.say("put eight: 1/4; 1 1 1; " + "; ".join(corners[:8])))
        self.assertEqual(octagon, shop.named("eight")[0])
        for line in ("put a: 1/4", "put a: 1/4; 1 1 1", "put a: ", "put a:", "put a", "put"):
            raised(self, InvalidPhrase, {"given": line}, console.say, line)

    def test_logs_that_are_none(self):
        console = Console(Workshop())
        for line in ("put a: 1/2; 0 0 1; 0 0 1; 1 0 1; 2 0 1", "put a: 1/2; 0 0 1; 0 0 1", "put a: 1/2; 0 0 1; 0 0 1; 1 1 1",
                     "put a: 1/1; 0 0 1; 0 0 1; 1 0 1; 1 1 1; 0 1 1", "put a: 0/1; 0 0 1; 0 0 1; 1 0 1; 1 1 1; 0 1 1",
                     "put a: -1/2; 0 0 1; 0 0 1; 1 0 1; 1 1 1; 0 1 1", "put a: 3/2; 0 0 1; 0 0 1; 1 0 1; 1 1 1; 0 1 1",
                     "put a: 1/2; 1 1 0; 0 0 1; 1 0 1; 1 1 1; 0 1 1", "put a: 1/2; 0 0 1; 0 0 1; 2 0 2; 1 1 1; 0 1 1"):
            raised(self, InvalidPhrase, {"given": line}, console.say, line)

    def test_what_it_answers_is_read_back(self):
        shop, other, maker = Workshop(), Workshop(), Maker(61)
        console, reader = Console(shop), Console(other)
        great = 10 ** 399 + 9
        logs = [(section, maker.area(section), maker.point()) for section in
                ALL + tuple(maker.polygon(3 + k % 6) for k in range(12))]
        logs.append((((0, 0, 1), (great, 0, 1), (great, great // 2, 1), (0, great, 1)), (1, great), (-great, 1, great - 1)))
        for log in logs:
            shop.put("log", log)
            line = console.say("log log")
            self.assertEqual("done", reader.say("put log: " + line))
            self.assertEqual(log, other.named("log"))
            self.assertEqual(line, reader.say("log log"))
            self.assertEqual(" ".join(rests(log)), reader.say("rests log"))
            self.assertEqual(write("x", log[1], log[2], log[0]), "put x: " + line)
        self.assertEqual(tuple(shop.names), tuple(console.say("names").split(" ")))

    def test_words(self):
        shop, maker = Workshop(), Maker(62)
        console = Console(shop)
        for section in ALL:
            log = (section, maker.area(section), maker.point())
            shop.put("log", log)
            for turn in range(6):
                edge, (n, m) = maker.rim(section)
                expected = word_at(section, log[2], stand_from(section, log[1], (edge, (n, m))))
                self.assertEqual(expected, console.say(f"word log: {edge} {n}/{m}"))
            for rim in (f"{len(section)} 0/1", "-1 0/1", "0 1/1", "0 -1/2", "0 3/2", "8 1/2", f"{10 ** 50} 0/1"):
                raised(self, InvalidPhrase, {"given": "word log: " + rim}, console.say, "word log: " + rim)
                # For a name that is none here this is told first.
                raised(self, UnknownName, {"given": "no"}, console.say, "word no: " + rim)
            for rim in ("0 0/2", "0 2/4", "0 1/-2", "0 1", "0", "", "0 1/2 ", " 0 1/2", "0  1/2", "00 1/2", "+0 1/2", "-0 1/2",
                        "0 01/2", "0/1 1/2", "1/2 0", "0; 1/2", "a 1/2"):
                for name in ("log", "no"):
                    line = f"word {name}: {rim}"
                    raised(self, InvalidPhrase, {"given": line}, console.say, line)

    def test_errors_of_the_workshop(self):
        shop = Workshop()
        console = Console(shop)
        console.say(PUT_BEAM)
        shop.wish(("firm", "beam", ((0, (0, 1)), (2, (0, 1)))))
        line = "put beam: 1/2; 2 1 4; 0 0 1; 1 0 1; 1 1 1; 0 1 1"
        raised(self, Broken, {"index": 0}, console.say, line)
        raised(self, Broken, {"index": 0}, console.say, line=line)
        raised(self, InUse, {"index": 0}, console.say, "drop beam")
        for line in ("drop x", "log x", "rests x", "word x: 0 0/1"):
            raised(self, UnknownName, {"given": "x"}, console.say, line)
        self.assertEqual((("beam",), 2), (shop.names, len(shop)))
        # The console and its workshop change together.
        shop.lift(0)
        self.assertEqual("done", console.say("drop beam"))
        self.assertEqual((), shop.names)
        self.assertEqual("done", Console(shop).say("undo"))
        self.assertEqual("beam", console.say("names"))
        with shop.trial():
            console.say("put a: 1/2; 2 1 4; 0 0 1; 1 0 1; 1 1 1; 0 1 1")
            self.assertEqual((square, deep[1], deep[2]), shop.named("a"))
        shop.wish(("trap", "a", None, hub))
        self.assertEqual("1/2; 2 1 4; 0 0 1; 1 0 1; 1 1 1; 0 1 1", console.say("log a"))

    def test_lines_that_are_none(self):
        console = Console(Workshop())
        console.say(PUT_BEAM)
        for line in wrong.JUNK + (None, 1, ("names",), ["undo"], b"names", "names ", " names", "Names", "NAMES", "name", "names:",
                                  "names: ", "names beam", "undo ", "undo 1", "undo beam", "Undo", "undo: ", "drop", "drop ",
                                  "drop  beam", "drop beam ", "drop Beam", "drop beam: ", "drop beam: 1", "drop beam beam",
                                  "drop b1", "drop 1", "log", "log ", "log beam ", "log: beam", "log beam:", "log beam: ",
                                  "rests", "rests beam beam", "rests BEAM", "rest beam", "rests abcdefghijklm", "word beam",
                                  "word beam: ", "word: 0 0/1", "word beam 0 0/1", "word beam:0 0/1", "word beam : 0 0/1",
                                  "lift 0", "wish one pose beam", "help", ": ", ":", ";", "put", "put beam", raft, hub):
            raised(self, InvalidPhrase, {"given": line}, console.say, line)
        self.assertEqual("beam", console.say("names"))

    def test_shops(self):
        for value in wrong.JUNK + (None, Workshop, "shop", ()):
            raised(self, NotAWorkshop, {"given": value}, Console, value)
            raised(self, NotAWorkshop, {"given": value}, Console, shop=value)
        shop = Workshop()
        console = Console(shop=shop)
        raised(self, NotAWorkshop, {"given": console}, Console, console)
        self.assertTrue(console)
        self.assertTrue(console == console and console != Console(shop) and not console == shop)


if __name__ == "__main__":
    unittest.main()
