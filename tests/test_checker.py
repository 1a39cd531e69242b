"""The checker: what is so is accepted with its papers, nothing else with any paper, and nothing raises."""

import unittest
from fractions import Fraction

from hullrests import certificates
from hullrests.checker import accepts
from hullrests.cuts import line_at, up_of
from hullrests.levers import word_at
from hullrests.metacentres import ballast_for
from hullrests.rests import rests
from hullrests.stands import is_on_arc, stand_from
from tests import reckoning, wrong
from tests.claims import LOGS, OTHERS, Claims, is_so, other_of
from tests.reckoning import Maker, number, pair, spot, within
from tests.shapes import ALL, beam, deck, deep, flat, half, hub, keel, raft, side, span, square, wedge

QUARTER = ((0, (1, 4)), (2, (1, 4)))
HATCH = (2, 3, 2)
# A right claim of each form, with a paper for it.
RIGHT = (
    (("unturned", beam, ((0, (1, 2)), (1, (0, 1))), "left"), ()), (("turned", beam, None, "left"), QUARTER),
    (("one pose", deep), ()), (("several poses", beam), ()), (("rests", beam, ("firm", "tipping") * 4), ()),
    (("unseen", raft, (2, 1), HATCH, span, "wet"), ()),
    (("seen", raft, (2, 1), HATCH, None, "wet"), ((1, (1, 2)), (3, (1, 2)))), (("trap", raft, (2, 1), keel, span), ()),
    (("no trap", square, (1, 2), ((1, 1, 2),), ((0, (1, 4)), (0, (1, 2)))), (QUARTER, (1, 1, 2))),
    (("level", raft, (0, 1), (1, 1, 1)), ()), (("not level", raft, (0, 1), (0, 1, 1)), flat),
    (("fits", raft, raft, (("rest", flat), ("left", side))), (1, 0, 1)),
    (("at odds", raft, raft, (("left", flat), ("firm", flat), ("right", side))), (0, 1)),
)
PAPERS = wrong.JUNK + ((), [()], None, 0, (0,), (1,), (0, 1), (1, 0), (0, 0), (0, 1, 2), (0, 1, 2, 3), (True,), (False, 1),
                       flat, side, QUARTER, list(flat), (flat,), (flat, (1, 1, 1)), [flat, (1, 1, 1)], (flat, hub), (hub, flat),
                       ((1, 1, 1), flat), (1, 1, 1), (0, 0, 1), (1, 0, 1), [1, 1, 1], (2, 2, 2), hub, deck, "left", "paper",
                       ((0, (0, 1)), (2, (0, 1))), ((0, (0, 1)), (0, (1, 2))), ((9, (0, 1)), (2, (0, 1))), ((0, (0, 1)),) * 3,
                       flat[::-1], (-1,), (0, -1), (12,), (10 ** 30,), ("0",), (None,), ((),), ((0,),), ((0, 1),), (0, 1, 1))


def deeper(value, many):
    """A value within so many tuples."""
    for _ in range(many):
        value = (value,)
    return value


class CheckerTest(unittest.TestCase):
    def refused(self, claim, paper):
        """Holds that a paper is not accepted for a claim."""
        self.assertIs(False, accepts(claim, paper), (claim, paper))

    def test_right_claims(self):
        for k, (claim, paper) in enumerate(RIGHT):
            self.assertIs(True, accepts(claim, paper), claim)
            self.assertIs(True, accepts(paper=paper, claim=claim))
            self.assertTrue(is_so(claim))
            for each in PAPERS + (claim, (paper,), [paper], paper + (None,), paper + ((),), paper * 2, paper[:-1]):
                if repr(each) != repr(paper):
                    self.assertIs(self.is_another(claim, each), accepts(claim, each), (claim, each))
            for other, another in RIGHT:
                if another != paper:
                    self.refused(claim, another)
            if claim[0] in OTHERS:
                for each in PAPERS + tuple(paper for claim, paper in RIGHT):
                    self.refused(other_of(claim), each)

    def is_another(self, claim, paper):
        """Whether something is another paper for one of the right claims."""
        more = {"turned": (), "fits": ("(1, 1, 2)",), "at odds": ("(0, 1, 2)",)}
        return repr(paper) in more.get(claim[0], ())

    def stands(self, claims, section, area):
        """Drawn stands of a section, most of them with the area."""
        maker = claims.maker
        for _ in range(6):
            yield stand_from(section, area, maker.rim(section, 5))
        yield stand_from(section, maker.area(section), maker.rim(section))

    def test_turned(self):
        claims, seen = Claims(81), set()
        for _ in range(60):
            log, arc, word = claims.told("turned")
            section, area, ballast = log
            for stand in self.stands(claims, section, area):
                told = reckoning.word(reckoning.lever(section, ballast, stand))
                is_here = reckoning.area(reckoning.wet(section, stand)) == number(area)
                expected = told == word and is_here and is_on_arc(section, arc, stand[0])
                self.assertIs(expected, accepts(("turned", log, arc, word), stand))
                self.refused(("unturned", log, arc, word), stand)
                seen.add((expected, told == word, is_here, is_on_arc(section, arc, stand[0])))
            self.assertIs(is_so(("unturned", log, arc, word)), accepts(("unturned", log, arc, word), ()))
            self.refused(("turned", log, arc, word), ())
        self.assertLessEqual({(True,) * 4, (False, False, True, True), (False, True, True, False)}, seen)
        self.assertTrue({(False, True, False, True), (False, False, False, True)} & seen)

    def test_seen(self):
        claims, seen = Claims(82), set()
        for _ in range(60):
            section, area, point, arc, word = told = claims.told("seen")
            for stand in self.stands(claims, section, area):
                left, right = (reckoning.rim_spot(section, rim) for rim in stand)
                side_of = reckoning.sign(reckoning.cross(left, right, spot(point)))
                is_here = reckoning.area(reckoning.wet(section, stand)) == number(area)
                expected = side_of == (1 if word == "dry" else -1) and is_here and is_on_arc(section, arc, stand[0])
                self.assertIs(expected, accepts(("seen",) + told, stand))
                self.refused(("unseen",) + told, stand)
                seen.add(expected)
            self.assertIs(is_so(("unseen",) + told), accepts(("unseen",) + told, ()))
            self.refused(("seen",) + told, ())
        self.assertEqual({True, False}, seen)

    def test_traps(self):
        claims, seen = Claims(83), set()
        for _ in range(60):
            section, area, lot, arc = told = claims.told("trap")
            self.assertIs(is_so(("trap",) + told), accepts(("trap",) + told, ()))
            self.refused(("no trap",) + told, ())
            ends = arc or (claims.maker.rim(section), claims.maker.rim(section))
            for left in ends + (claims.maker.rim(section),):
                for size in (area, claims.maker.area(section)):
                    stand = stand_from(section, size, left)
                    for ballast in lot + (claims.maker.inner_point(lot), claims.maker.point()):
                        word = reckoning.word(reckoning.lever(section, ballast, stand))
                        expected = arc is not None and size == area and within(lot, spot(ballast)) and (
                            (word == "left" and left == arc[0]) or (word == "right" and left == arc[1]))
                        self.assertIs(expected, accepts(("no trap",) + told, (stand, ballast)))
                        self.refused(("trap",) + told, (stand, ballast))
                        self.refused(("no trap",) + told, (ballast, stand))
                        self.refused(("no trap",) + told, [stand, ballast])
                        seen.add(expected)
        self.assertEqual({True, False}, seen)
        # A point of the lot that is none of its corners.
        told = (square, (1, 2), ((0, 1, 2), (1, 1, 1)), ((0, (1, 4)), (0, (1, 2))))
        self.assertIs(True, accepts(("no trap",) + told, (QUARTER, (2, 5, 8))))
        self.refused(("no trap",) + told, (QUARTER, (2 * 10 ** 30, 5 * 10 ** 30 + 1, 8 * 10 ** 30)))
        self.refused(("no trap",) + told, (QUARTER, (1, 1, 1)))
        self.refused(("no trap",) + told, (QUARTER, (1, 0, 1)))
        self.refused(("no trap", square, (1, 2), ((1, 1, 2),), None), (QUARTER, (1, 1, 2)))

    def test_poses_and_rests(self):
        claims = Claims(84)
        for log in LOGS + tuple(claims.log() for _ in range(30)):
            kinds = rests(log)
            is_one = kinds.count("firm") == 1 and "sliding" not in kinds
            self.assertIs(is_one, accepts(("one pose", log), ()))
            self.assertIs(not is_one, accepts(("several poses", log), ()))
            self.assertIs(True, accepts(("rests", log, kinds), ()))
            for other in (kinds[1:], kinds[:-1], kinds + kinds[:1], kinds[1:] + kinds[:1], (), ("sliding",), kinds * 2):
                self.assertIs(other == kinds, accepts(("rests", log, other), ()))
            for other in (list(kinds), kinds[0], kinds[:-1] + ("Firm",), kinds[:-1] + (None,), kinds[:-1] + (wrong.Odd(),),
                          None, len(kinds), " ".join(kinds), (kinds,), kinds[:-1] + (b"firm",)):
                self.refused(("rests", log, other), ())
            for paper in PAPERS:
                if paper.__class__ is not tuple or paper is wrong.DEEP or len(paper) > 0:
                    self.refused(("rests", log, kinds), paper)
                    self.refused(("one pose", log), paper)
                    self.refused(("several poses", log), paper)

    def test_levels(self):
        claims, seen = Claims(85), set()
        for _ in range(60):
            section, up, ballast = told = claims.told("level")
            self.assertIs(is_so(("level",) + told), accepts(("level",) + told, ()))
            self.refused(("not level",) + told, ())
            low, high = (pick(reckoning.height(up, spot(corner)) for corner in section) for pick in (min, max))
            for share in (Fraction(1, 10 ** 20), Fraction(1, 3), Fraction(1, 2), Fraction(4, 5)):
                for way in (1, -1):
                    stand = line_at(section, (way * up[0], way * up[1]), pair((low + (high - low) * share) * way))
                    word = reckoning.word(reckoning.lever(section, ballast, stand))
                    self.assertIs(way == 1 and word != "rest", accepts(("not level",) + told, stand))
                    self.refused(("level",) + told, stand)
                    seen.add((way, word))
            other = stand_from(section, claims.maker.area(section), claims.maker.rim(section))
            self.assertIs(up_of(section, other) == up and word_at(section, ballast, other) != "rest",
                          accepts(("not level",) + told, other))
        self.assertLessEqual({(1, "left"), (1, "rest"), (1, "right"), (-1, "left"), (-1, "right")}, seen)

    def test_fits(self):
        claims, seen = Claims(86), set()
        for _ in range(60):
            section, lot, notes = told = claims.told("fits")
            points = [claims.maker.point(), claims.maker.inner_point(lot), lot[0]]
            points += [ballast_for(section, stand, (-1, 3)) for word, stand in notes]
            claim, paper = certificates.certify_notes(section, lot, notes)
            points += [paper] if claim[0] == "fits" else []
            for point in points:
                expected = within(lot, spot(point)) and all(self.keeps(section, point, note) for note in notes)
                self.assertIs(expected, accepts(("fits",) + told, point))
                seen.add(expected)
            self.refused(("fits",) + told, ())
        self.assertEqual({True, False}, seen)
        for notes in ((), (("rest", flat),) * 12):
            self.assertIs(True, accepts(("fits", raft, hub, notes), (1, 1, 1)))
        # What may be told as notes are twelve of them at most.
        self.refused(("fits", raft, hub, (("rest", flat),) * 13), (1, 1, 1))
        self.refused(("at odds", raft, hub, (("left", flat),) * 13), (0,))

    def keeps(self, section, ballast, note):
        """Whether a ballast keeps a note, by a reckoning of levers."""
        saying, stand = note
        word = reckoning.word(reckoning.lever(section, ballast, stand))
        if saying in ("left", "right", "rest"):
            return saying == word
        if word != "rest":
            return False
        firm = reckoning.sign(reckoning.firmness(section, ballast, stand))
        self.assertNotEqual(0, firm)
        return saying == ("firm" if firm > 0 else "tipping")

    def test_at_odds(self):
        notes = (("left", flat), ("right", side), ("firm", flat), ("rest", flat), ("right", flat), ("left", flat))
        claim = ("at odds", raft, raft, notes)
        # Which of the pairs are at odds: a word and another one at `flat`.
        for paper in [(j, k) for j in range(6) for k in range(6)]:
            words = {notes[k][0] for k in paper if notes[k][1] == flat}
            # At `side` it is `right` above 1, and `firm` at `flat` is up to 5 / 6.
            is_odd = paper == (1, 2) if 1 in paper else words not in ({"firm", "rest"}, {"left"})
            expected = paper[0] < paper[1] and is_odd
            self.assertIs(expected, accepts(claim, paper), paper)
        for paper in ((0, 1, 2), (0, 2, 3), (0, 1, 4), (3, 4, 5)):
            self.assertIs(True, accepts(claim, paper))
        for paper in ((), (0,), (1,), (5,), (0, 1), (0, 1, 5), (2, 0), (4, 0), (0, 0), (0, 0, 4), (0, 4, 0), (0, 4, 4), (0, 4, 6),
                      (-1, 4), (-1,), (-6, 4), (0, -2), (0, 6), (4, 6), (0, 10 ** 30), (False, 4), (0, True), ("0", 4), (None, 4), (0, (4,)),
                      (0, 1, 2, 3), (0, 2, 3, 4), (0, 1, 2, 3, 4, 5), [0, 4], ((0, 4),), (0, wrong.Odd()), 0, None, "04"):
            self.refused(claim, paper)
        # One note that is fitted by none, and three of which each two are fitted.
        self.assertIs(True, accepts(("at odds", raft, hub, notes), (0,)))
        self.assertIs(True, accepts(("at odds", raft, hub, notes), (0, 1)))
        self.assertIs(True, accepts(("at odds", raft, hub, notes), (2,)))
        for paper in ((3,), (-1,), (-1, 0), (-6,), (6,)):
            self.refused(("at odds", raft, hub, notes), paper)
        stands = [stand_from(raft, (2, 1), left) for left in ((3, (1, 2)), (0, (5, 6)), (2, (1, 6)))]
        three = tuple(("left", stand) for stand in stands)
        wide = ((-99, -99, 1), (99, -99, 1), (99, 99, 1), (-99, 99, 1))
        self.assertIs(True, accepts(("at odds", raft, wide, three), (0, 1, 2)))
        for paper in ((0,), (0, 1), (0, 2), (1, 2), (2, 1, 0), (0, 1, 1), (0, 1, 3)):
            self.refused(("at odds", raft, wide, three), paper)
        self.refused(("at odds", raft, raft, ()), ())
        self.refused(("at odds", raft, raft, ()), (0,))

    def test_no_claim_with_its_other(self):
        claims = Claims(87)
        for form in OTHERS:
            for _ in range(12):
                claim = claims.claim(form)
                papers = [(), (0,), (0, 1), (0, 1, 2)] + [paper for right, paper in RIGHT]
                certified = self.certificate(claim)
                papers.append(certified[1])
                for pair_of in ((claim, other_of(claim)),):
                    accepted = [any(accepts(each, paper) for paper in papers) for each in pair_of]
                    self.assertEqual(1, sum(accepted), claim)
                    self.assertIs(is_so(claim), accepted[0])

    def certificate(self, claim):
        """The certificate of a claim or of the one that excludes it."""
        makers = {"unturned": "turning", "turned": "turning", "one pose": "pose", "several poses": "pose",
                  "unseen": "wetness", "seen": "wetness", "trap": "trap", "no trap": "trap", "level": "level",
                  "not level": "level", "fits": "notes", "at odds": "notes"}
        return getattr(certificates, "certify_" + makers[claim[0]])(*claim[1:])

    def test_wrong_forms(self):
        for claim, paper in RIGHT:
            for other in (claim[:-1], claim[1:], claim + (None,), claim + ((),), claim * 2, (claim,), list(claim), claim[0],
                          (claim[0],), (claim[0], claim[1:]), (claim[0].upper(),) + claim[1:], (claim[0] + " ",) + claim[1:],
                          (" " + claim[0],) + claim[1:], (claim[0].encode(),) + claim[1:], ((claim[0],),) + claim[1:],
                          ([claim[0]],) + claim[1:], (None,) + claim[1:], (wrong.Odd(),) + claim[1:], ("claim",) + claim[1:],
                          (claim[0].replace(" ", "_"),) + claim[1:] if " " in claim[0] else (claim[0] + "s",) + claim[1:],
                          claim[:1] + (claim[1:],), deeper(claim, 3), deeper(claim, 9), dict(enumerate(claim))):
                self.refused(other, paper)
                self.refused(other, ())
            for other, another in RIGHT:
                if other[0] not in (claim[0], OTHERS.get(claim[0])):
                    self.refused((other[0],) + claim[1:], paper)

    def test_wrong_values_in_each_place(self):
        kinds = {"unturned": ("log", "arc", "turn"), "one pose": ("log",), "rests": ("log", "kinds"),
                 "unseen": ("section", "area", "point", "arc", "sight"), "trap": ("section", "area", "lot", "arc"),
                 "level": ("section", "up", "point"), "fits": ("section", "lot", "notes")}
        for form in ("unturned", "one pose", "unseen", "trap", "level", "fits"):
            kinds[OTHERS[form]] = kinds[form]
        for claim, paper in RIGHT:
            section = claim[1] if isinstance(claim[1][0][0], int) else claim[1][0]
            whole = pair(reckoning.area([spot(corner) for corner in section]))
            values = {"log": wrong.logs((section, (1, 8), (1, 1, 3))), "arc": wrong.arcs(section), "turn": wrong.WORDS,
                      "kinds": wrong.JUNK + (None, (), "firm", ("firm",), ("Firm",) * 8, (b"firm",) * 8),
                      "section": wrong.SECTIONS, "area": wrong.areas(section, whole), "point": wrong.POINTS,
                      "sight": ("left", "right", "rim", "Dry", b"dry", ("dry",), None, True) + wrong.JUNK,
                      "lot": wrong.POLYGONS, "up": wrong.DIRECTIONS,
                      "notes": wrong.JUNK[:8] + (None, list(claim[-1])) + tuple(
                          tuple(claim[-1][:1]) + (note,) + tuple(claim[-1][1:]) for note in wrong.notes(section))}
            for k, kind in enumerate(kinds[claim[0]]):
                for value in values[kind]:
                    other = claim[:k + 1] + (value,) + claim[k + 2:]
                    self.refused(other, paper)
                    self.refused(other, ())

    def test_no_claims_at_all(self):
        for claim in wrong.JUNK + (None, (), 0, "rests", ("rests",), (("rests",),), deeper("one pose", 12), deeper((), 13),
                                   (wrong.Odd(), wrong.Odd()), [("one pose", deep)], {"one pose": deep}, ("one pose",) * 60,
                                   ("one pose", ("one pose", deep)), accepts, accepts(None, None), b"one pose"):
            for paper in PAPERS + (claim,):
                self.refused(claim, paper)

    def test_stands_as_papers(self):
        # A stand of another area, off the arc, of another section, upside down, or told in another way.
        claim, paper = RIGHT[1]
        self.assertIs(True, accepts(claim, paper))
        self.assertIs(True, accepts(("turned", beam, ((0, (1, 4)), (0, (1, 4))), "left"), paper))
        for other in (((0, (1, 4)), (2, (1, 2))), ((0, (2, 8)), (2, (1, 4))), ((0, (0, 1)), (2, (0, 1))), ((0, (1, 4)), (9, (1, 4))),
                      ((0, (1, 4)),), paper + paper, ((0, (1, 4)), (2, (1, 4)), None), ((0, 1, 4), (2, 1, 4)), paper[::-1],
                      ((0, (1, 2)), (2, (1, 2))), ((0, (3, 4)), (2, (3, 4)))):
            expected = other == paper[::-1]
            self.assertIs(expected, accepts(claim, other))
        for arc in (((0, (1, 2)), (1, (0, 1))), ((0, (26, 100)), (0, (24, 100))), ((0, (13, 50)), (0, (6, 25)))):
            self.refused(("turned", beam, arc, "left"), paper)
        self.refused(("turned", beam, None, "right"), paper)
        self.refused(("turned", wedge, None, "left"), paper)
        self.refused(("turned", (square, (1, 3), (1, 1, 2)), None, "left"), paper)
        for section in ALL:
            maker = Maker(88)
            area, rim = maker.area(section), maker.rim(section)
            stand = stand_from(section, area, rim)
            log = (section, area, ballast_for(section, stand, (1, 3)))
            for word in ("left", "right"):
                self.refused(("turned", log, None, word), stand)
                self.refused(("turned", log, (rim, rim), word), stand)
                self.assertIs(True, accepts(("unturned", log, (rim, rim), word), ()))
        self.refused(("seen", half, (1, 8), (1, 1, 3), None, "dry"), ())


if __name__ == "__main__":
    unittest.main()
