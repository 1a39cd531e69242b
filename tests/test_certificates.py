"""Certificates: each one is accepted, and of two claims that exclude one another it is the one that is so."""

import unittest
from fractions import Fraction

from hullrests import certificates
from hullrests.checker import accepts
from hullrests.errors import InvalidArc, InvalidArea, InvalidDirection, InvalidLog, InvalidNotes, InvalidPoint
from hullrests.errors import InvalidPolygon, InvalidSection, InvalidWord
from hullrests.points import plus
from hullrests.rests import near, rests
from hullrests.sections import moved
from hullrests.stands import stand_from
from tests import reckoning, wrong
from tests.claims import SLIDE, Claims, is_so, is_trap, other_of
from tests.reckoning import Maker, pair, spot, within
from tests.shapes import ALL, beam, deep, diamond, flat, half, hexagon, house, hub, keel, raft, sail, side, span, square, wedge
from tests.wrong import check_arguments, raised

MAKERS = {"turned": "certify_turning", "unturned": "certify_turning", "one pose": "certify_pose",
          "several poses": "certify_pose", "seen": "certify_wetness", "unseen": "certify_wetness", "trap": "certify_trap",
          "no trap": "certify_trap", "level": "certify_level", "not level": "certify_level", "fits": "certify_notes",
          "at odds": "certify_notes"}
FINE = 10 ** 12


class CertificatesTest(unittest.TestCase):
    def holds(self, form, told):
        """Holds what is told of a certificate; the claim's word."""
        claim, paper = getattr(certificates, MAKERS[form])(*told)
        self.assertEqual(told, claim[1:])
        self.assertIn(claim[0], (form, other_of((form,))[0]))
        self.assertIs(True, accepts(claim, paper))
        self.assertTrue(is_so(claim))
        self.assertIs(False, accepts(other_of(claim), paper))
        self.assertIs(False, accepts(other_of(claim), ()))
        if claim[0] in ("unturned", "one pose", "several poses", "unseen", "trap", "level"):
            self.assertEqual((), paper)
        return claim[0]

    def test_drawn_claims(self):
        claims, seen = Claims(71), {}
        for form in MAKERS:
            for _ in range(40):
                word = self.holds(form, claims.told(form))
                seen[word] = seen.get(word, 0) + 1
        self.assertEqual(set(MAKERS), set(seen))
        self.assertGreater(min(seen.values()), 2)

    def test_rests(self):
        claims = Claims(72)
        for log in [claims.log() for _ in range(40)] + [beam, wedge, deep, SLIDE]:
            claim, paper = certificates.certify_rests(log)
            self.assertEqual((("rests", log, rests(log)), ()), (claim, paper))
            self.assertIs(True, accepts(claim, paper))
            self.assertIs(False, accepts(("rests", log, rests(log)[1:]), paper))
            claim, paper = certificates.certify_pose(log)
            kinds = rests(log)
            is_one = kinds.count("firm") == 1 and "sliding" not in kinds
            self.assertEqual((("one pose" if is_one else "several poses", log), ()), (claim, paper))

    def test_papers(self):
        claims = Claims(73)
        for _ in range(60):
            told = claims.told("turned")
            claim, paper = certificates.certify_turning(*told)
            if claim[0] == "turned":
                (section, area, ballast), arc, word = told
                self.assertEqual(word, reckoning.word(reckoning.lever(section, ballast, paper)))
                self.assertEqual(stand_from(section, area, paper[0]), paper)
            told = claims.told("no trap")
            claim, paper = certificates.certify_trap(*told)
            if claim[0] == "no trap":
                section, area, lot, arc = told
                stand, ballast = paper
                self.assertTrue(within(lot, spot(ballast)))
                word = reckoning.word(reckoning.lever(section, ballast, stand))
                self.assertTrue((word, stand[0]) in (("left", arc[0]), ("right", arc[1])))
            told = claims.told("fits")
            claim, paper = certificates.certify_notes(*told)
            if claim[0] == "at odds":
                self.assertTrue(1 <= len(paper) <= 3)
                self.assertFalse(is_so(("fits", told[0], told[1], tuple(told[2][k] for k in paper))))
                for k in paper:
                    fewer = tuple(told[2][j] for j in paper if j != k)
                    self.assertTrue(is_so(("fits", told[0], told[1], fewer)))

    def test_by_hand(self):
        self.assertEqual((("several poses", beam), ()), certificates.certify_pose(beam))
        self.assertEqual((("one pose", deep), ()), certificates.certify_pose(deep))
        self.assertEqual((("level", square, (0, 1), (1, 1, 2)), ()), certificates.certify_level(square, (0, 1), (1, 1, 2)))
        self.assertEqual("not level", certificates.certify_level(square, (0, 1), (2, 1, 3))[0][0])
        self.assertEqual("not level", certificates.certify_level(square, (2, 1), (1, 1, 2))[0][0])
        self.assertEqual((("trap", raft, (2, 1), keel, span), ()), certificates.certify_trap(raft, (2, 1), keel, span))
        self.assertEqual((("trap", raft, (2, 1), raft, None), ()), certificates.certify_trap(raft, (2, 1), raft, None))
        claim, (stand, ballast) = certificates.certify_trap(raft, (2, 1), hub, span)
        self.assertEqual((("no trap", raft, (2, 1), hub, span), (1, 1, 1)), (claim, ballast))
        self.assertIn(stand[0], span)
        self.assertEqual("unseen", certificates.certify_wetness(raft, (2, 1), (1, 1, 1), None, "wet")[0][0])
        self.assertEqual("seen", certificates.certify_wetness(raft, (2, 1), (2, 3, 2), None, "wet")[0][0])
        self.assertEqual("unseen", certificates.certify_wetness(raft, (2, 1), (2, 3, 2), span, "wet")[0][0])
        self.assertEqual((("fits", raft, raft, ()), (1, 1, 1)), certificates.certify_notes(raft, raft, ()))
        notes = (("left", flat), ("firm", flat), ("right", side))
        self.assertEqual((("at odds", raft, raft, notes), (0, 1)), certificates.certify_notes(raft, raft, notes))
        # The ballast that keeps `firm` is from (1, 0) up to the metacentre.
        self.assertEqual((("fits", raft, raft, notes[1:2]), (12, 5, 12)),
                         certificates.certify_notes(raft, raft, notes[1:2]))

    def test_three_notes_at_odds(self):
        # Half planes with no point in common, each two of them having some.
        stands = [stand_from(raft, (2, 1), left) for left in ((3, (1, 2)), (0, (5, 6)), (2, (1, 6)))]
        wide = ((-99, -99, 1), (99, -99, 1), (99, 99, 1), (-99, 99, 1))
        for word in ("left", "right"):
            notes = tuple((word, stand) for stand in stands)
            claim, paper = certificates.certify_notes(raft, wide, notes)
            self.assertEqual((("at odds", raft, wide, notes), (0, 1, 2)), (claim, paper))
            self.assertTrue(accepts(claim, paper))
            for k in range(3):
                self.assertEqual("fits", certificates.certify_notes(raft, wide, notes[:k] + notes[k + 1:])[0][0])

    def test_where_no_fractions_tell_the_stand(self):
        # On the line of a mirror a log rests at heels whose stands no fractions tell.
        seen = 0
        for section, ballast, share in ((half, (1, 1, 5), Fraction(1, 3)), (square, (1, 1, 2), Fraction(2, 7)),
                                        (diamond, (0, 1, 5), Fraction(1, 5)), (house, (2, 1, 1), Fraction(9, 10)),
                                        (hexagon, (0, -1, 1), Fraction(1, 7)), (sail, (1, 1, 1), Fraction(1, 3))):
            area = pair(share * reckoning.area([spot(corner) for corner in section]))
            log = (section, area, ballast)
            claim, paper = certificates.certify_rests(log)
            self.assertTrue(accepts(claim, paper))
            for index, kind in enumerate(rests(log)):
                edge, n, is_just = near(log, index, FINE)
                if is_just or n + 1 >= FINE or n == 0:
                    continue
                seen += 1
                before, behind = (edge, pair(Fraction(n, FINE))), (edge, pair(Fraction(n + 1, FINE)))
                words = {"firm": ("right", "left"), "tipping": ("left", "right")}[kind]
                for arc, came in (((before, behind), words), ((before, before), words[:1]), ((behind, behind), words[1:])):
                    for word in ("left", "right"):
                        claim, paper = certificates.certify_turning(log, arc, word)
                        self.assertEqual("turned" if word in came else "unturned", claim[0])
                        self.assertTrue(accepts(claim, paper))
                # From before a firm one to behind it is a trap, and so is the other way round a tipping one.
                arc = (before, behind) if kind == "firm" else (behind, before)
                self.assertEqual("trap", certificates.certify_trap(section, area, (ballast,), arc)[0][0])
                self.assertEqual("no trap", certificates.certify_trap(section, area, (ballast,), arc[::-1])[0][0])
        self.assertGreater(seen, 8)

    def test_great_numbers(self):
        great = 10 ** 399 + 9
        section = ((0, 0, 1), (great, 0, 1), (great, great // 2, 1), (0, great, 1))
        area, ballast = pair(Fraction(great * great, 3)), (great, great - 1, 3)
        log, arc = (section, area, ballast), ((3, (1, great)), (0, (great - 1, great)))
        stand = stand_from(section, area, arc[0])
        for told in (("turned", log, arc, "left"), ("turned", log, None, "right"), ("one pose", log),
                     ("seen", section, area, ballast, arc, "dry"), ("trap", section, area, (ballast,), arc),
                     ("level", section, (great, 1), ballast), ("fits", section, section, (("left", stand), ("right", stand[::-1]))),
                     ("fits", section, (ballast,), (("firm", stand),))):
            self.holds(told[0], told[1:])

    def test_as_the_numbers_grow(self):
        # The claims about a section that is moved far away are so in the same way, with the same stands.
        maker, way = Maker(74), (10 ** 60, -3, 7)
        for section in ALL:
            area, ballast, arc = maker.area(section), maker.inner_point(section), (maker.rim(section), maker.rim(section))
            there, away = moved(section, way), plus(ballast, way)
            for word in ("left", "right"):
                claim, paper = certificates.certify_turning((section, area, ballast), arc, word)
                self.assertEqual(((claim[0], (there, area, away), arc, word), paper),
                                 certificates.certify_turning((there, area, away), arc, word))
            claim, paper = certificates.certify_trap(section, area, (ballast,), arc)
            self.assertIs(is_trap(section, area, (ballast,), arc), claim[0] == "trap")
            self.assertEqual((claim[0], there, area, (away,), arc),
                             certificates.certify_trap(there, area, (away,), arc)[0])

    def test_arguments(self):
        log, arc = (InvalidLog, wrong.logs(wedge)), (InvalidArc, wrong.arcs(half))
        around = ((1, (1, 2)), (0, (0, 1)))
        turns = (InvalidWord, wrong.WORDS)
        for each in (around, None):
            check_arguments(self, certificates.certify_turning, {"log": wedge, "arc": each, "word": "right"},
                            {"log": log, "arc": arc, "word": turns})
        for function in (certificates.certify_pose, certificates.certify_rests):
            check_arguments(self, function, {"log": wedge}, {"log": log})
        section, area = (InvalidSection, wrong.SECTIONS), (InvalidArea, wrong.areas(half, (1, 2)))
        sights = (InvalidWord, tuple(word for word in wrong.WORDS if word.__class__ is not str or word != "dry") + (
            "left", "right", "rim", "Wet"))
        told = {"section": half, "area": (1, 8), "point": (1, 1, 9), "arc": around, "word": "wet"}
        check_arguments(self, certificates.certify_wetness, told, {
            "section": section, "area": area, "point": (InvalidPoint, wrong.POINTS), "arc": arc, "word": sights})
        lot = (InvalidPolygon, wrong.POLYGONS)
        for each in (around, None):
            check_arguments(self, certificates.certify_trap, {"section": half, "area": (1, 8), "lot": hub, "arc": each},
                            {"section": section, "area": area, "lot": lot, "arc": arc})
        check_arguments(self, certificates.certify_level, {"section": half, "up": (1, 1), "ballast": (1, 2, 9)},
                        {"section": section, "up": (InvalidDirection, wrong.DIRECTIONS),
                         "ballast": (InvalidPoint, wrong.POINTS)})
        check_arguments(self, certificates.certify_notes, {"section": raft, "lot": hub, "notes": (("rest", flat),)},
                        {"section": section, "lot": lot})

    def test_notes_that_are_none(self):
        right = ("left", flat)
        for value in wrong.JUNK[:8] + (None, [right], right[0]):
            if not isinstance(value, tuple):
                raised(self, InvalidNotes, {"index": None}, certificates.certify_notes, raft, hub, value)
        for value in wrong.notes(raft):
            raised(self, InvalidNotes, {"index": 1}, certificates.certify_notes, raft, hub, (right, value))
        self.assertEqual("at odds", certificates.certify_notes(raft, hub, (right,) * 12)[0][0])
        raised(self, InvalidNotes, {"index": 12}, certificates.certify_notes, raft, hub, (right,) * 13)
        raised(self, InvalidPolygon, {"given": ()}, certificates.certify_notes, raft, (), (right,) * 13)


if __name__ == "__main__":
    unittest.main()
