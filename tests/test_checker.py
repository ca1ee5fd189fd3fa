"""Point [54] and platelights/checker.py: what the checker accepts."""

import unittest

from platelights.checker import accepts
from platelights.courses import course_of, level_course
from tests.cases import PRICKLY, STRANGE, Case
from tests.corpus import NOTHING_BACK, ONE_WAY, bent, certified, course_of_square
from tests.judge import BARE, FORMS, is_claim, shows
from tests.values import ALONG, BIG, GLASS, HALF, NOUGHT, SLANT, UNIT, UPRIGHT, Draw

I, Q, U = (1, 0, 0, 0), (1, 1, 0, 0), (1, 0, 1, 0)
DARK, PLAIN, EAST, WEST, NORTH = (0, 0, 0, 0, 1), (1, 0, 0, 0, 1), (1, 1, 0, 0, 1), (1, -1, 0, 0, 1), (1, 0, 1, 0, 1)
BRIGHT, ONE = (("level", I, (1, 1)),), (("level", I, (1, 1)), ("level", Q, (2, 1)))
RAY, NO_LIGHT = (("level", Q, (0, 1)),), (("level", I, (0, 1)),)
O, J = (0, 0), (1, 0)
LEVEL, WHOLE, UP = ((J, O), (O, O)), ((J, O), (O, J)), ((O, O), (O, J))
MALUS, ZERO = (1, 0, 1, 0, 0, 1), level_course((0, 1))
CYCLE = (("turner", (1, 1, 1, 1)),)
EXCLUDING = (
    ("alike", "unlike"), ("keeps", "loses"), ("made", "not made"), ("fringes", "no fringes"), ("no fringes", "sharper"),
    ("mixture", "no mixture"), ("patchwork", "no patchwork"), ("brighter", "not brighter"), ("never back", "unchanged"),
)


class CheckerTest(Case):

    def check(self, told, claim, paper):
        """Check what the checker says, by position and by name, and that the document's words say the same."""
        self.assertIs(accepts(claim, paper), told, (claim, paper))
        self.assertIs(accepts(claim=claim, paper=paper), told)
        self.assertEqual(is_claim(claim) and shows(claim, paper), told, (claim, paper))

    def test_papers_that_are_right(self):
        seen = {word: 0 for word in FORMS}
        for claim, paper in certified(1, 12):
            self.check(True, claim, paper)
            seen[claim[0]] += 1
        self.assertGreater(min(seen.values()), 0, seen)

    def test_claims_and_papers_bent_at_one_place(self):
        draw, seen = Draw(2), {}
        for claim, paper in certified(3, 8):
            for _ in range(12):
                other = bent(draw, claim) if draw.chance.randint(0, 1) else claim
                beside = bent(draw, paper) if other is claim else paper
                told = is_claim(other) and shows(other, beside)
                self.assertIs(accepts(other, beside), told, (other, beside))
                seen[told] = seen.get(told, 0) + 1
        self.assertGreater(min(seen.values()), 500, seen)

    def test_other_words_and_papers_of_other_claims(self):
        draw, words = Draw(4), list(FORMS)
        pairs = certified(5, 3)
        for claim, paper in pairs:
            for word in words + ["", "none", "Alike", "alike ", "keep", "no_light", None, 0, b"alike", PRICKLY]:
                other = (word, *claim[1:])
                if type(word) is not str or word != claim[0]:
                    self.assertIs(accepts(other, paper), is_claim(other) and shows(other, paper), (other, paper))
            _, beside = draw.chance.choice(pairs)
            self.assertIs(accepts(claim, beside), shows(claim, beside))

    def test_strange_claims_and_papers(self):
        for claim, paper in certified(6, 1):
            for value in STRANGE + ((), 0, 1, -1, BIG, (0,), ((0, 1),), [paper], (paper,), [claim]):
                self.assertIs(accepts(value, paper), False)
                if not (type(value) is tuple and len(value) == 0 or value is paper):
                    self.assertIs(accepts(claim, value), shows(claim, value))
                for other in ((*claim[:-1], value), (claim[0], value, *claim[2:]), (value, *claim[1:])):
                    self.assertIs(accepts(other, paper), is_claim(other) and shows(other, paper))
            self.assertIs(accepts(list(claim), paper), False)
            self.assertIs(accepts(claim, list(paper)), False)
            self.assertIs(accepts(claim + (0,), paper), False)
            self.assertIs(accepts(claim[:-1], paper), False)
            self.assertIs(accepts((claim,), paper), False)
            if claim[0] in BARE:
                for value in (None, [], "", 0, False, ((),), (0,), {}, PRICKLY):
                    self.assertIs(accepts(claim, value), False)
            else:
                self.assertIs(accepts(claim, ()), shows(claim, ()))
        for value in STRANGE:
            for other in STRANGE:
                self.assertIs(accepts(value, other), False)

    def test_claims_that_exclude_one_another(self):
        pairs = certified(7, 6)
        papers = {}
        for claim, paper in pairs:
            papers.setdefault(claim[0], []).append(paper)
        tried = 0
        for claim, _ in pairs:
            for one, two in EXCLUDING:
                if claim[0] in (one, two):
                    other = (two if claim[0] == one else one, *claim[1:])
                    for paper in papers.get(other[0], [])[:12] + [(), DARK, PLAIN, EAST, WEST, NORTH]:
                        self.assertIs(accepts(other, paper), False, (other, paper))
                        tried += 1
        self.assertGreater(tried, 2000)
        for claim, others in (
            (("fits", BRIGHT, PLAIN), [("no light", BRIGHT)]),
            (("rank", UNIT, 1), [("rank", UNIT, 2), ("rank", UNIT, 0), ("not made", UNIT)]),
            (
                ("order", (1, 1, 1, 1), 3),
                [("order", (1, 1, 1, 1), 6), ("never round", (1, 1, 1, 1)), ("order", (1, 1, 1, 1), 1)],
            ),
            (
                ("comes back", CYCLE, EAST, 3),
                [("never back", CYCLE, EAST), ("comes back", CYCLE, EAST, 6), ("unchanged", CYCLE, EAST)],
            ),
            (("leads", ((EAST, NORTH),), (1, 0, 0, 1)), [("no turn", ((EAST, NORTH),))]),
            (
                ("unchanged", (ALONG,), EAST),
                [("fading", (ALONG,)), ("never back", (ALONG,), EAST), ("comes back", (ALONG,), EAST, 2)],
            ),
        ):
            self.check(True, claim, ())
            for other in others:
                for paper in ((), DARK, PLAIN, EAST, (2, 1, 0, 0, 1), ("look", (-1,)), ("equations", (0,)), ("edge", (0,), 0), ("level", 0),
                              ("product", 0, 0), ((0, 0),) * 4, ((1, 0),) * 4):
                    self.check(False, other, paper)

    def test_plates(self):
        for told, claim, paper in (
            (True, ("alike", (), ()), ()), (True, ("alike", (ALONG, ALONG), (ALONG,)), ()),
            (False, ("alike", (ALONG,), (SLANT,)), ()),
            (False, ("alike", (), ()), None), (False, ("alike", (), (), ()), ()),
            (True, ("unlike", (ALONG,), ()), WEST),
            (False, ("unlike", (ALONG,), ()), EAST), (False, ("unlike", (ALONG,), ()), DARK),
            (False, ("unlike", (ALONG,), ()), (2, -2, 0, 0, 2)),
            (False, ("alike", (ALONG,) * 9, (ALONG,)), ()), (True, ("alike", (ALONG,) * 8, (ALONG,)), ()),
            (False, ("alike", [ALONG], (ALONG,)), ()),
            (True, ("keeps", GLASS), ()), (True, ("keeps", NOUGHT), ()), (False, ("loses", GLASS), PLAIN),
            (False, ("made", GLASS), ()),
            (True, ("not made", GLASS), (O, J, (-1, 0), O)), (False, ("not made", GLASS), (O, J, J, O)),
            (False, ("not made", GLASS), (O, O, O, O)),
            (True, ("made", NOUGHT), ()), (True, ("made", NOUGHT), ((WHOLE, (0, 1)),)),
            (True, ("made", UNIT), ((WHOLE, (1, 1)),)),
            (True, ("made", UNIT), ((WHOLE, (1, 2)), (WHOLE, (1, 2)))), (False, ("made", UNIT), ((WHOLE, (2, 2)),)),
            (True, ("made", UNIT), ((WHOLE, (1, 16)),) * 16), (False, ("made", UNIT), ((WHOLE, (1, 17)),) * 17),
            (False, ("made", UNIT), ((WHOLE, (2, 1)), (WHOLE, (-1, 1)))),
            (False, ("made", UNIT), ((WHOLE, (1, 1)), (LEVEL, (1, 1)))),
            (True, ("made", UNIT), (((((2, 0), O), (O, (2, 0))), (1, 4)),)),
            (False, ("made", UNIT), ((WHOLE, (1, 1), ()),)), (False, ("made", UNIT), ([WHOLE, (1, 1)],)),
            (False, ("made", UNIT), [(WHOLE, (1, 1))]),
            (True, ("rank", NOUGHT, 0), ()), (True, ("rank", UNIT, 1), ()), (False, ("rank", UNIT, True), ()),
            (False, ("rank", GLASS, 0), ()),
            (False, ("rank", GLASS, None), ()), (True, ("one way", ONE_WAY[0]), ()),
            (False, ("one way", ONE_WAY[0][::-1]), ()), (False, ("one way", ()), ()),
            (False, ("one way", (ALONG, UPRIGHT)), ()), (True, ("nothing back", NOTHING_BACK[-1]), ()),
            (False, ("nothing back", (ALONG, UPRIGHT)), ()),
            (False, ("nothing back", (ALONG,)), ()), (True, ("nothing back", ONE_WAY[0]), ()),
            (False, ("nothing back", ()), ()),
        ):
            self.check(told, claim, paper)

    def test_beams(self):
        for told, claim, paper in (
            (True, ("fringes", LEVEL, WHOLE), EAST), (False, ("fringes", LEVEL, WHOLE), WEST),
            (False, ("fringes", LEVEL, UP), NORTH),
            (True, ("no fringes", LEVEL, UP), ()), (False, ("no fringes", LEVEL, WHOLE), ()),
            (False, ("no fringes", LEVEL, UP), PLAIN),
            (True, ("sharper", LEVEL, WHOLE, (1, 2)), PLAIN), (False, ("sharper", LEVEL, WHOLE, (2, 3)), PLAIN),
            (True, ("sharper", LEVEL, WHOLE, (BIG * 2 - 1, BIG * 3)), PLAIN),
            (True, ("sharper", LEVEL, WHOLE, (2, 3)), (9, 1, 0, 0, 7)),
            (False, ("sharper", LEVEL, WHOLE, (1, 1)), EAST), (True, ("sharper", LEVEL, WHOLE, (0, 1)), PLAIN),
            (False, ("sharper", LEVEL, WHOLE, (0, 1)), WEST),
            (False, ("sharper", LEVEL, LEVEL, (0, 1)), WEST), (False, ("sharper", LEVEL, WHOLE, (0, 1)), DARK),
            (False, ("sharper", LEVEL, WHOLE, (-1, 2)), PLAIN),
            (False, ("sharper", LEVEL, WHOLE, (3, 2)), PLAIN), (False, ("sharper", LEVEL, WHOLE, (2, 4)), PLAIN),
            (False, ("sharper", LEVEL, WHOLE), PLAIN),
        ):
            self.check(told, claim, paper)

    def test_readings(self):
        more, none = BRIGHT + (("level", Q, (3, 1)),), ("no light", (("level", I, (-1, 1)),))
        edge = ("no light", RAY + (("level", (1, 0, 1, 0), (1, 1)), ("level", I, (0, 1))))
        for told, claim, paper in (
            (True, ("fits", (), PLAIN), ()), (True, ("fits", BRIGHT, EAST), ()),
            (False, ("fits", BRIGHT, (2, 0, 0, 0, 1)), ()), (True, none, ("look", (1,))),
            (True, none, ("look", (7,))), (False, none, ("look", (0,))), (False, none, ("look", (-1,))),
            (False, none, ("look", [1])), (False, none, ("look", (True,))),
            (False, none, ("look", ())), (False, none, ("look", (1, 0))), (False, none, ("look", (1,), 0)),
            (False, none, ("look",)), (False, none, ["look", (1,)]),
            (True, ("no light", more), ("look", (9, -4))), (True, ("no light", more), ("look", (18, -8))),
            (True, ("no light", more), ("look", (2, -1))),
            (False, ("no light", more), ("look", (3, -1))), (False, ("no light", more), ("look", (1, -1))),
            (False, ("no light", more), ("equations", (2, -1))),
            (True, ("no light", BRIGHT + (("level", I, (2, 1)),)), ("equations", (1, -1))),
            (False, ("no light", BRIGHT * 2), ("equations", (1, -1))),
            (False, ("no light", BRIGHT + (("level", I, (2, 1)),)), ("equations", (2, -1))),
            (False, ("no light", BRIGHT + (("level", I, (2, 1)),)), ("equations", (0, 0))),
            (False, ("no light", BRIGHT + (("level", I, (2, 1)),)), ("equations", (1, -1), 0)),
            (False, ("no light", ()), ("equations", ())), (False, ("no light", ()), ("look", ())),
            (False, edge, ("edge", (1, 0, 0), 1)), (False, edge, ("edge", (1, 0, 0), 0)),
            (False, edge, ("edge", (1, 0, 0), 2)), (False, edge, ("edge", (0, 0, 1), 1)),
        ):
            self.check(told, claim, paper)
        edge = (
            "no light",
            RAY + (("more", (2, 0, 1, 0), (2, 0, 0, 1), (1, 2)), ("ratio", U, I, (1, 1)), ("level", I, (1, 1))),
        )
        for told, paper in (
            (True, ("edge", (1, 0, 0, 0), 1)), (True, ("edge", (5, 0, 0, 0), 1)), (False, ("edge", (-1, 0, 0, 0), 1)),
            (False, ("edge", (0, 0, 0, 0), 1)),
            (False, ("edge", (1, 1, 0, 0), 1)), (False, ("edge", (1, 0, 1, 0), 1)), (False, ("edge", (1, 0, 0, 0), 2)),
            (False, ("edge", (1, 0, 0, 0), 0)),
            (False, ("edge", (1, 0, 0, 0), 3)), (False, ("edge", (1, 0, 0, 0), 4)), (False, ("edge", (1, 0, 0, 0), -3)),
            (False, ("edge", (1, 0, 0, 0), True)),
            (False, ("edge", (1, 0, 0, 0))), (False, ("edge", (1, 0, 0, 0), 1, 1)), (False, ("edge", (1, 0, 0), 1)),
            (False, ("look", (1, 0, 0, 0))),
            (False, ("edge", (1, 0, 0, 0), None)), (False, ("edge", (1, 0, 0, 0), (1,))),
            (False, ("edge", ((1, 1), (0, 1), (0, 1), (0, 1)), 1)),
        ):
            self.check(told, edge, paper)
        row = ("more", (2, 0, 1, 0), (2, 0, 0, 1), (1, 2))
        for told, readings, paper in (
            # No pure look; a sum of numbers that is not 0, where lights do fit; an index from the end.
            (False, NO_LIGHT + (("more", Q, I, (1, 1)),), ("edge", (1, 0), 1)),
            (False, (("level", Q, (1, 1)), row), ("edge", (1, 0), 1)), (True, RAY + (row,), ("edge", (1, 0), 1)),
            (False, RAY + (row,), ("edge", (1, 0), -1)), (False, RAY + (row,), ("edge", (1, 0), 2)),
            (True, (row,) + RAY, ("edge", (0, 1), 0)), (False, (row,) + RAY, ("edge", (0, 1), -2)),
        ):
            self.check(told, ("no light", readings), paper)

    def test_looks(self):
        half = ("settled", BRIGHT, I, (1, 1))
        for told, claim, paper in (
            (True, half, (PLAIN, ("sum", ((1, 1),)))), (True, half, (EAST, ("sum", ((1, 1),)))),
            (False, half, ((2, 0, 0, 0, 1), ("sum", ((1, 1),)))),
            (False, half, (PLAIN, ("sum", ((2, 1),)))), (False, half, (PLAIN, ("sum", (1,)))),
            (False, half, (PLAIN, ("sum", ((2, 2),)))), (False, half, (PLAIN, ("sum", ()))),
            (False, half, (PLAIN, ("edge", ((1, 1),)))), (False, half, (PLAIN, ("Sum", ((1, 1),)))),
            (False, half, (PLAIN, ("sum", ((1, 1),), ()))), (False, half, (PLAIN,)),
            (False, half, (PLAIN, ["sum", ((1, 1),)])), (False, half, (PLAIN, ("sum", [(1, 1)]))),
            (False, half, (("sum", ((1, 1),)), PLAIN)), (False, half, PLAIN),
            (False, ("settled", BRIGHT, I, (2, 1)), (PLAIN, ("sum", ((1, 1),)))),
            (False, ("settled", BRIGHT, Q, (1, 1)), (PLAIN, ("sum", ((1, 1),)))),
            (True, ("settled", ONE, U, (1, 1)), (EAST, ("edge", ((2, 1), (-1, 1))))),
            (True, ("settled", ONE, U, (1, 1)), (EAST, ("edge", ((1, 3), (-1, 6))))),
            (False, ("settled", ONE, U, (1, 1)), (EAST, ("edge", ((-2, 1), (1, 1))))),
            (False, ("settled", ONE, U, (1, 1)), (EAST, ("edge", ((0, 1), (0, 1))))),
            (False, ("settled", ONE, U, (2, 1)), (EAST, ("edge", ((2, 1), (-1, 1))))),
            (False, ("settled", ONE, U, (1, 1)), (EAST, ("edge", ((3, 1), (-1, 1))))),
            (
                True, ("settled", ONE + (("level", (1, -1, 0, 0), (0, 1)),), U, (1, 1)),
                (EAST, ("edge", ((2, 1), (-1, 1), (0, 1)))),
            ),
            (True, ("settled", NO_LIGHT, U, (0, 1)), (DARK, ("edge", ((1, 1),)))),
            (True, ("settled", NO_LIGHT, U, (0, 1)), (DARK, ("edge", ((1, 5),)))),
            (False, ("settled", NO_LIGHT, U, (0, 1)), (DARK, ("edge", ((-1, 1),)))),
            (False, ("settled", NO_LIGHT, U, (0, 1)), (DARK, ("edge", ((0, 1),)))),
            (False, ("settled", RAY, U, (0, 1)), (DARK, ("edge", ((1, 1),)))),
            (True, ("settled", RAY, Q, (0, 1)), (WEST, ("sum", ((1, 1),)))),
            (True, ("open", RAY, U), (DARK, WEST)), (True, ("open", BRIGHT, Q), (PLAIN, EAST)),
            (False, ("open", BRIGHT, Q), (PLAIN, PLAIN)), (False, ("open", BRIGHT, I), (PLAIN, EAST)),
            (False, ("open", BRIGHT, Q), (PLAIN, (2, 2, 0, 0, 1))),
            (False, ("open", BRIGHT, Q), ((2, 2, 0, 0, 1), PLAIN)), (False, ("open", BRIGHT, Q), [PLAIN, EAST]),
            (False, ("open", BRIGHT, Q), (PLAIN, EAST, WEST)), (False, ("open", BRIGHT, Q), (PLAIN,)),
            (False, ("open", BRIGHT, U), (PLAIN, EAST)), (True, ("open", (), U), (DARK, PLAIN)),
        ):
            self.check(told, claim, paper)

    def test_mixtures(self):
        half, both = (1, 2), (EAST, WEST)
        grey = ((UNIT, NOUGHT), (tuple([tuple([int(at == place) for place in range(4)]) for at in range(4)]), 2))
        ones, zero = ((1, 0, 0, 0), (0, 0, 0, 0), (0, 0, 0, 0), (0, 0, 0, 0)), ((0, 0, 0, 0),) * 4
        for told, claim, paper in (
            (True, ("mixture", both, PLAIN), (half, half)), (False, ("mixture", both, PLAIN), ((1, 1), (1, 1))),
            (False, ("mixture", both, PLAIN), ((2, 4), half)),
            (False, ("mixture", both, PLAIN), [half, half]), (False, ("mixture", both, PLAIN), (half,)),
            (False, ("mixture", both, PLAIN), (half, half, half)),
            (True, ("mixture", both + (DARK,), PLAIN), (half, half, (7, 3))),
            (False, ("mixture", both + (DARK,), PLAIN), (half, half, (-7, 3))),
            (False, ("mixture", both + (DARK,), PLAIN), (half, half, (-1, 3))),
            (False, ("mixture", (PLAIN, EAST, WEST), PLAIN), ((2, 1), (-1, 2), (-1, 2))),
            (True, ("mixture", (EAST,), DARK), ((0, 1),)), (False, ("mixture", (), DARK), ()),
            (True, ("mixture", (EAST,) * 8, EAST), ((1, 8),) * 8),
            (False, ("mixture", (EAST,) * 9, EAST), ((1, 9),) * 9), (True, ("no mixture", both, NORTH), (0, 0, -1, 0)),
            (True, ("no mixture", both, NORTH), (0, 0, -5, 0)), (False, ("no mixture", both, NORTH), (0, 1, -1, 0)),
            (False, ("no mixture", both, NORTH), (0, 0, 0, 0)),
            (False, ("no mixture", both, NORTH), (0, 0, -1, 0, 1)), (False, ("no mixture", both, NORTH), [0, 0, -1, 0]),
            (False, ("no mixture", both, PLAIN), (0, 0, -1, 0)),
            (False, ("no mixture", both, NORTH), (0, 0, True, 0)), (True, ("patchwork", *grey), (half, half)),
            (True, ("patchwork", (UNIT,) * 6, UNIT), ((1, 6),) * 6),
            (False, ("patchwork", (UNIT,) * 7, UNIT), ((1, 7),) * 7), (False, ("patchwork", (UNIT,), grey[1]), (half,)),
            (False, ("patchwork", *grey), (half, (1, 3))),
            (False, ("patchwork", (UNIT, UNIT), UNIT), ((2, 1), (-1, 1))), (False, ("patchwork", (), UNIT), ()),
            (True, ("no patchwork", (UNIT,), grey[1]), (ones, 1)),
            (True, ("no patchwork", (UNIT,), NOUGHT), (ones, 1)), (False, ("no patchwork", (UNIT,), NOUGHT), (ones, 2)),
            (False, ("no patchwork", (UNIT,), NOUGHT), (ones, 0)),
            (False, ("no patchwork", (UNIT,), NOUGHT), (ones, True)),
            (False, ("no patchwork", (UNIT,), NOUGHT), (ones,)), (False, ("no patchwork", (UNIT,), NOUGHT), ones),
            (False, ("no patchwork", (UNIT,), NOUGHT), (zero, 0)), (False, ("no patchwork", *grey), (ones, 1)),
            (True, ("no patchwork", (NOUGHT,), UNIT), (tuple([tuple([-n for n in row]) for row in ones]), 0)),
            (False, ("no patchwork", (UNIT,), NOUGHT), (ones, 1, 0)),
            (False, ("no patchwork", (UNIT,), NOUGHT), (list(ones), 1)),
            (False, ("no patchwork", (UNIT,), NOUGHT), (ones[:3], 1)),
        ):
            self.check(told, claim, paper)

    def test_turns(self):
        hand = (
            "no turn",
            ((EAST, EAST), (NORTH, NORTH), ((1, 0, 0, 1, 1), (1, 0, 0, -1, 1)), (PLAIN, (2, 0, 0, 0, 1)), (EAST, WEST)),
        )
        for told, claim, paper in (
            (True, ("leads", (), (1, 2, 3, 4)), ()), (True, ("leads", ((EAST, NORTH),), (1, 0, 0, 1)), ()),
            (False, ("leads", ((EAST, NORTH),), (1, 0, 0, 0)), ()),
            (False, ("leads", ((EAST, NORTH),), (2, 0, 0, 2)), ()), (True, hand, ("hand", 0, 1, 2)),
            (False, hand, ("hand", 1, 0, 2)), (False, hand, ("hand", 0, 1, 1)),
            (False, hand, ("hand", 0, 1, 3)), (False, hand, ("hand", 0, 1)), (False, hand, ("hand", 0, 1, 2, 3)),
            (False, hand, ("hand", 0, 1, 5)), (False, hand, ("hand", -5, 1, 2)),
            (True, hand, ("level", 3)), (False, hand, ("level", 0)), (False, hand, ("level", -2)),
            (False, hand, ("level", 3, 3)), (False, hand, ("level",)), (False, hand, ("level", (3,))),
            (True, hand, ("product", 3, 3)), (True, hand, ("product", 0, 4)), (False, hand, ("product", 4, 0)),
            (False, hand, ("product", -1, 0)), (False, hand, ("product", 0, 1)), (False, hand, ("product", 4)),
            (False, hand, ("product", 0, 0)), (False, hand, ("product", False, 4)), (False, hand, ["product", 0, 4]),
            (False, hand, ("Product", 0, 4)), (False, hand, ()),
            (False, ("no turn", ()), ("level", 0)), (False, ("no turn", ()), ()),
            (True, ("order", (1, 0, 0, 0), 1), ()), (True, ("order", (0, 1, 2, 3), 2), ()),
            (True, ("order", (1, 0, 0, 1), 4), ()), (True, ("order", (3, 1, 1, 1), 6), ()),
            (False, ("order", (3, 1, 1, 1), 12), ()), (False, ("order", (2, 1, 0, 0), 5), ()),
            (False, ("order", (1, 0, 0, 0), True), ()), (False, ("order", (2, 1, 0, 0), None), ()),
            (True, ("never round", (2, 1, 0, 0)), ()), (False, ("never round", (1, 1, 0, 0)), ()),
        ):
            self.check(told, claim, paper)

    def test_courses(self):
        above = ("brighter", course_of_square((1, 0, 1)), ZERO)
        touch = ("not brighter", course_of_square((-2, 0, 1), 3), ZERO)
        for told, claim, paper in (
            (True, above, (0, 1)), (True, above, (1, 2)), (False, above, (1, 1)), (False, above, (-2, 1)),
            (False, above, (0, 2)), (False, above, 0), (False, above, ((0, 1),)),
            (True, above, (-1, 2)), (False, above, (-1, 1)), (False, ("brighter", MALUS, ZERO), (0, 1)),
            (False, ("brighter", ZERO, MALUS), (0, 1)), (False, ("brighter", MALUS, MALUS), (0, 1)),
            (True, ("not brighter", MALUS, ZERO), ("setting", (1, 0))),
            (False, ("not brighter", MALUS, ZERO), ("setting", (0, 1))),
            (False, ("not brighter", MALUS, ZERO), ("setting", (2, 0))),
            (True, ("not brighter", MALUS, level_course((1, 2))), ("setting", (1, 1))),
            (True, ("not brighter", MALUS, level_course((1, 2))), ("setting", (-1, 1))),
            (False, ("not brighter", MALUS, level_course((1, 2))), ("setting", (BIG - 1, BIG))),
            (True, ("not brighter", MALUS, level_course((1, 2))), ("setting", (BIG + 1, BIG))),
            (False, ("not brighter", MALUS, ZERO), ("setting", (1, 0), 1)),
            (False, ("not brighter", MALUS, ZERO), ["setting", (1, 0)]),
            (False, ("not brighter", MALUS, ZERO), ("setting",)),
            (True, touch, ("square", (-2, 0, 1), (1, 1))), (True, touch, ("square", (2, 0, -1), (1, 1))),
            (True, touch, ("square", (-4, 0, 2), (1, 4))), (False, touch, ("square", (-2, 0, 1), (1, 3))),
            (False, touch, ("square", (-2, 0, 1), (2, 2))), (False, touch, ("square", (-2, 0, 1), (0, 1))),
            (False, touch, ("square", (2, 0, 1), (1, 1))), (False, touch, ("square", [-2, 0, 1], (1, 1))),
            (False, touch, ("square", (-2, 0, 1), 1)), (False, touch, ("square", (-2, 0, 1))),
            (False, touch, ("square", (-2, 0, 1, 0), (1, 1))), (False, touch, ("setting", (1, 1))),
            (False, ("not brighter", course_of_square((1, 0, 1)), ZERO), ("square", (1, 0, 1), (1, 1))),
            (True, ("not brighter", course_of_square((1, 2, 1)), ZERO), ("square", (1, 2, 1), (1, 1))),
            (True, ("not brighter", MALUS, MALUS), ("square", (0, 0, 0), (1, 1))),
            (True, ("not brighter", MALUS, MALUS), ("setting", (3, 4))),
            (False, ("not brighter", ZERO, MALUS), ("square", (1, 0, 0), (-1, 1))),
            (False, ("not brighter", course_of((-4, 0, 4, 0, -1), 1), ZERO), ("square", (-2, 0, 1), (-1, 1))),
            (False, ("not brighter", MALUS, MALUS), ("square", (1, 0, 0), (0, 1))),
            (True, ("not brighter", course_of((-4, 0, 4, 0, -1), 1), ZERO), ("setting", (0, 1))),
            (True, ("not brighter", ZERO, MALUS), ("setting", (0, 1))),
            (False, touch, ("square", (-2, 0, True), (1, 1))),
            (False, ("not brighter", course_of((1, 2, 1, 0, 5), 1), ZERO), ("square", (1, 1, 0), (1, 1))),
            (False, touch, ()), (False, touch, ("root", (-2, 0, 1), (1, 1))),
        ):
            self.check(told, claim, paper)

    def test_rounds(self):
        cross, blur = (ALONG, ("turner", (0, 0, 0, 1))), (("dull", (1, 2)),)
        half, level = ("fading", (HALF,)), ("last level", blur, EAST, (1, 1))
        for told, claim, paper in (
            (True, ("unchanged", (ALONG,), EAST), ()), (True, ("unchanged", (), (9, 1, 0, 0, 4)), ()),
            (False, ("unchanged", (), DARK), ()), (False, ("unchanged", (ALONG,), PLAIN), ()),
            (False, ("unchanged", (ALONG,), WEST), ()), (True, half, PLAIN), (True, half, (2, 1, 0, 0, 5)),
            (False, half, EAST), (False, half, DARK), (False, half, (2, 0, 0, 0, 2)),
            (False, ("fading", ()), PLAIN), (False, ("fading", blur), PLAIN), (False, ("fading", cross), PLAIN),
            (True, ("fading", cross), (3, -1, 0, 0, 2)), (False, half, ()),
            (False, ("fading", (("grey", (0, 1)),)), EAST), (True, ("fading", (("grey", (0, 1)),)), PLAIN),
            (False, ("fading", (ALONG,)), (2, -1, 0, 0, 1)),
            (True, level, (PLAIN, (0, 2, 0, 0, 1))), (True, level, (PLAIN, (0, 4, 0, 0, 2))),
            (True, level, (PLAIN, (7, 2, 0, 0, 1))), (False, level, (PLAIN, (0, 2, 0, 0, -1))),
            (False, level, (PLAIN, (0, 2, 0, 0, 0))), (False, level, (PLAIN, (0, 2, 0, 0))),
            (False, level, (PLAIN, [0, 2, 0, 0, 1])), (False, level, (PLAIN, (0, 1, 0, 0, 1))),
            (False, level, (EAST, (0, 0, 0, 0, 1))), (False, level, (PLAIN,)), (False, level, [PLAIN, (0, 2, 0, 0, 1)]),
            (False, level, ((2, 0, 0, 0, 2), (0, 2, 0, 0, 1))),
            (False, ("last level", blur, EAST, (2, 1)), (PLAIN, (0, 2, 0, 0, 1))),
            (True, ("last level", (HALF,), PLAIN, (0, 1)), (DARK, (2, 0, 0, 0, 1))),
            (False, ("last level", (HALF,), PLAIN, (1, 1)), (PLAIN, (0, 0, 0, 0, 1))),
            (True, ("last level", (), DARK, (0, 1)), (DARK, (0, 0, 0, 0, 3))),
            (True, ("comes back", CYCLE, EAST, 3), ()), (False, ("comes back", CYCLE, EAST, 6), ()),
            (True, ("comes back", CYCLE, PLAIN, 1), ()), (False, ("comes back", CYCLE, PLAIN, True), ()),
            (False, ("comes back", CYCLE, PLAIN, 3), ()), (False, ("comes back", CYCLE, DARK, 1), ()),
            (True, ("never back", (ALONG,), PLAIN), ()), (False, ("never back", (ALONG,), DARK), ()),
            (False, ("never back", (ALONG,), EAST), ()), (True, ("never back", blur, EAST), ()),
            (False, ("comes back", blur, EAST, None), ()), (False, ("never back", CYCLE, EAST), ()),
        ):
            self.check(told, claim, paper)

    def test_numbers_with_many_figures(self):
        huge = 10 ** 399
        looks = (("level", (huge, 1, 0, 0), (huge, 7)), ("level", I, (1, 7)))
        for told, claim, paper in (
            (True, ("fits", looks, (1, 0, 0, 0, 7)), ()),
            (True, ("no light", (("level", (huge, 1, 0, 0), (-1, huge)),)), ("look", (huge,))),
            (True, ("alike", (("grey", (1, huge)),), (("set", (huge, 1), ("grey", (1, huge))),)), ()),
            (False, ("alike", (("grey", (1, huge)),), (("grey", (1, huge + 1)),)), ()),
            (True, ("brighter", (huge, 0, 2 * huge, 0, huge, 1), level_course((huge - 1, 1))), (0, 1)),
            (True, ("never round", (huge, 1, 0, 0)), ()),
            (True, ("mixture", ((huge, 1, 0, 0, 1), EAST), (huge + 1, 2, 0, 0, huge)), ((1, huge), (1, huge))),
        ):
            self.check(told, claim, paper)


if __name__ == "__main__":
    unittest.main()
