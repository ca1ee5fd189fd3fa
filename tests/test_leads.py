"""Points [23], [24] and of [54] the paper for "no turn", and platelights/leads.py: turns that fit pairs of lights."""

import unittest
from fractions import Fraction

from platelights.errors import InvalidLight, InvalidPairs, InvalidTurn, NoTurnFits
from platelights.leads import bar_to_turn, fitting_turn, is_fitting, leading, sure_image, turns_that_fit
from platelights.lights import is_light
from platelights.turns import is_turn, turn_cosine, turned_light
from tests.cases import Argument, Case
from tests.reckon import dot, numbers_of, product, rank, row_of, swing_of, upright
from tests.values import BIG, LAMP, WRONG_LIGHTS, WRONG_PAIRS, WRONG_TURNS, Draw, wrong_lists

STILL = (1, 0, 0, 0)
DARK, PLAIN, ALONG, SLANT, AROUND = (0, 0, 0, 0, 1), (1, 0, 0, 0, 1), (1, 1, 0, 0, 1), (1, 0, 1, 0, 1), (1, 0, 0, 1, 1)
UPRIGHT, OTHER_AROUND = (1, -1, 0, 0, 1), (1, 0, 0, -1, 1)
TWO = ((ALONG, SLANT), (SLANT, AROUND))


def hand(lights):
    """The determinant of the last three numbers of three lights."""
    one, two, three = [swing_of(light) for light in lights]
    return dot(one, upright(two, three))


def bars(pairs, paper):
    """Whether a paper shows that no turn fits some pairs, as point [54] tells it."""
    if type(paper) is not tuple or any(type(part) is not int or not 0 <= part < len(pairs) for part in paper[1:]):
        return False
    chosen = [pairs[at] for at in paper[1:]]
    befores, afters = [pair[0] for pair in chosen], [pair[1] for pair in chosen]
    if paper[0] == "level" and len(paper) == 2:
        return numbers_of(befores[0])[0] != numbers_of(afters[0])[0]
    if paper[0] == "product" and len(paper) == 3 and paper[1] <= paper[2]:
        one, two = [product(numbers_of(lights[0]), numbers_of(lights[1])) for lights in (befores, afters)]
        return one != two
    if paper[0] == "hand" and len(paper) == 4 and paper[1] < paper[2] < paper[3]:
        return hand(befores) != hand(afters)
    return False


def span_of(pairs):
    """The dimension of what the first lights' swings span."""
    return rank([swing_of(before) for before, _ in pairs])


def mirrored(light):
    return (*light[:3], -light[3], light[4])


class LeadsTest(Case):

    def check_fit(self, pairs):
        """Check all that is told of pairs that some turn fits."""
        told = fitting_turn(pairs)
        self.gives(told, fitting_turn, pairs)
        self.assertTrue(is_turn(told))
        for before, after in pairs:
            self.assertEqual(turned_light(before, told), after)
        self.gives(True, is_fitting, pairs, told)
        self.gives(None, bar_to_turn, pairs)
        self.gives("one" if span_of(pairs) > 1 else "endless", turns_that_fit, pairs)

    def check_no_fit(self, pairs):
        """Check all that is told of pairs that no turn fits."""
        told = bar_to_turn(pairs)
        self.gives(told, bar_to_turn, pairs)
        self.assertTrue(bars(pairs, told), (pairs, told))
        self.gives(None, fitting_turn, pairs)
        self.gives("none", turns_that_fit, pairs)
        self.refuses(NoTurnFits, None, None, lambda: sure_image(pairs, LAMP))

    def test_examples(self):
        self.gives((1, 0, 0, 1), leading, ALONG, SLANT)
        self.gives(None, leading, ALONG, PLAIN)
        self.gives((1, 1, 1, 1), fitting_turn, TWO)
        self.gives("one", turns_that_fit, TWO)
        self.gives("endless", turns_that_fit, TWO[:1])
        self.gives((2, 1, 0, 0, 1), sure_image, TWO, (2, 0, 0, 1, 1))
        self.gives((2, 0, -1, 0, 1), sure_image, TWO[:1], (2, -1, 0, 0, 1))
        self.gives(None, sure_image, TWO[:1], AROUND)
        self.gives(("product", 0, 1), bar_to_turn, ((ALONG, SLANT), (SLANT, SLANT)))
        self.gives(("hand", 0, 1, 2), bar_to_turn, ((ALONG, ALONG), (SLANT, SLANT), (AROUND, OTHER_AROUND)))
        self.gives(None, bar_to_turn, TWO)

    def test_leading_has_the_least_angle(self):
        draw = Draw(1)
        for _ in range(80):
            light, turn = draw.light(), draw.turn()
            other = turned_light(light, turn)
            told = leading(light, other)
            self.gives(told, leading, light, other)
            self.assertTrue(is_turn(told))
            self.assertEqual(turned_light(light, told), other)
            size = dot(swing_of(light), swing_of(light))
            cosine = Fraction(*turn_cosine(told))
            self.assertEqual(cosine, dot(swing_of(light), swing_of(other)) / size if size else 1)

    def test_leading_at_edges(self):
        for light in (DARK, PLAIN, (3, 0, 0, 0, 2), ALONG, (5, 1, 2, -3, 7), (BIG, 1, 0, 0, 1)):
            self.gives(STILL, leading, light, light)
        for light in (ALONG, SLANT, AROUND, LAMP, (5, 1, -2, 3, 7), (5, 0, 1, -2, 3), (3, 1, 2, 0, 1), (BIG, 1, 2, 3, 7)):
            opposite = (light[0], -light[1], -light[2], -light[3], light[4])
            told = leading(light, opposite)
            self.gives(told, leading, light, opposite)
            self.assertTrue(is_turn(told))
            self.assertEqual(told[0], 0)
            self.assertEqual(dot(told[1:], light[1:4]), 0)
            self.assertEqual(turned_light(light, told), opposite)
        # Close to opposite, but not quite.
        near = (BIG * BIG + 1, 1 - BIG * BIG, 2 * BIG, 0, BIG * BIG + 1)
        self.assertTrue(is_light(near))
        self.assertEqual(turned_light(ALONG, leading(ALONG, near)), near)
        self.gives((1, 0, 0, BIG), leading, ALONG, near)

    def test_no_leading(self):
        for light, other in (
            (ALONG, PLAIN), (PLAIN, ALONG), (PLAIN, DARK), (ALONG, (2, 1, 0, 0, 1)), ((2, 1, 0, 0, 1), (1, 1, 0, 0, 1)),
            ((2, 1, 0, 0, 1), (2, 0, 2, 0, 1)), ((1, 1, 0, 0, 1), (2, 2, 0, 0, 1)), (DARK, PLAIN), (PLAIN, (1, 0, 0, 0, 2)),
            ((2, 1, 0, 0, 1), (2, 1, 0, 0, 3)), ((BIG, 1, 0, 0, 1), (BIG, 1, 1, 0, 1)), ((5, 3, 0, 4, 5), (5, 3, 0, 3, 5)),
        ):
            self.gives(None, leading, light, other)

    def test_wrong_arguments_of_leading(self):
        self.checks_arguments(
            leading,
            Argument("light", LAMP, InvalidLight, WRONG_LIGHTS),
            Argument("other", LAMP, InvalidLight, WRONG_LIGHTS),
        )

    def test_pairs_that_fit(self):
        draw, spans = Draw(2), [0, 0, 0, 0]
        for _ in range(150):
            turn, many = draw.turn(), draw.chance.randint(0, 6)
            lights = [draw.light(draw.chance.choice((1, 5))) for _ in range(many)]
            pairs = tuple([(light, turned_light(light, turn)) for light in lights])
            spans[span_of(pairs)] += 1
            self.check_fit(pairs)
            self.gives(True, is_fitting, pairs, turn)
            if span_of(pairs) > 1:
                self.assertEqual(fitting_turn(pairs), turn)
        self.assertGreater(min(spans), 5, spans)

    def test_edges_of_fitting(self):
        self.gives(STILL, fitting_turn, ())
        half = (2, -1, 0, 0, 1), (2, 1, 0, 0, 1)
        for pairs in (
            (), ((PLAIN, PLAIN),), ((DARK, DARK),), ((ALONG, ALONG),), ((ALONG, UPRIGHT),), (half,), ((ALONG, UPRIGHT), half),
            ((DARK, DARK), (PLAIN, PLAIN), (ALONG, AROUND), (UPRIGHT, OTHER_AROUND)), ((ALONG, ALONG),) * 6,
            ((ALONG, UPRIGHT), (SLANT, (1, 0, -1, 0, 1))), ((AROUND, OTHER_AROUND), (PLAIN, PLAIN)), TWO + TWO + TWO,
            ((ALONG, SLANT), (SLANT, AROUND), (AROUND, ALONG)), ((ALONG, ALONG), (SLANT, SLANT), (AROUND, AROUND)),
        ):
            self.check_fit(pairs)

    def test_pairs_that_no_turn_fits(self):
        for pairs in (
            ((PLAIN, DARK),), ((ALONG, PLAIN),), ((PLAIN, ALONG),), ((ALONG, (2, 2, 0, 0, 1)),),
            ((ALONG, ALONG), (SLANT, ALONG)), ((ALONG, ALONG), (UPRIGHT, ALONG)), ((ALONG, SLANT), (ALONG, AROUND)),
            ((ALONG, ALONG), (SLANT, SLANT), (AROUND, OTHER_AROUND)), ((PLAIN, PLAIN), (PLAIN, (2, 0, 0, 0, 1))),
            ((ALONG, ALONG), (SLANT, SLANT), (AROUND, AROUND), (PLAIN, PLAIN), (LAMP, mirrored(LAMP))),
            ((ALONG, ALONG),) * 5 + ((ALONG, UPRIGHT),), ((DARK, DARK), (PLAIN, PLAIN), (LAMP, (2, 1, 1, 0, 5))),
            ((ALONG, ALONG), (PLAIN, PLAIN), (SLANT, SLANT), (UPRIGHT, UPRIGHT), (AROUND, OTHER_AROUND)),
        ):
            self.check_no_fit(pairs)

    def test_mirrored_pairs(self):
        draw = Draw(3)
        hands = 0
        for _ in range(60):
            turn, many = draw.turn(), draw.chance.randint(1, 6)
            lights = [draw.light() for _ in range(many)]
            pairs = tuple([(light, turned_light(mirrored(light), turn)) for light in lights])
            if span_of(pairs) == 3:
                self.check_no_fit(pairs)
                self.assertEqual(bar_to_turn(pairs)[0], "hand")
                hands += 1
            else:
                # What does not span all can be mirrored by a turn, too.
                self.check_fit(pairs)
        self.assertGreater(hands, 20)

    def test_pairs_changed_at_one_place(self):
        draw, words = Draw(4), {}
        for _ in range(120):
            turn, many = draw.turn(), draw.chance.randint(2, 6)
            lights = [draw.light(3) for _ in range(many)]
            pairs = [(light, turned_light(light, turn)) for light in lights]
            at = draw.chance.randrange(many)
            level, *swing = numbers_of(pairs[at][1])
            level += draw.chance.choice((0, 0, 0, Fraction(1, 9)))
            swing = swing[1:] + swing[:1] if draw.chance.randint(0, 1) else [-number for number in swing]
            pairs[at] = (pairs[at][0], row_of([level] + swing))
            pairs = tuple(pairs)
            paper = bar_to_turn(pairs)
            words[paper and paper[0]] = words.get(paper and paper[0], 0) + 1
            if paper is None:
                self.check_fit(pairs)
            else:
                self.check_no_fit(pairs)
        self.assertGreater(words["level"], 5)
        self.assertGreater(words["product"], 5)
        self.assertGreater(words[None], 5)

    def test_is_fitting(self):
        self.gives(True, is_fitting, (), (1, 2, 3, 4))
        self.gives(True, is_fitting, TWO, (1, 1, 1, 1))
        self.gives(False, is_fitting, TWO, (1, 0, 0, 1))
        self.gives(True, is_fitting, TWO[:1], (1, 0, 0, 1))
        self.gives(False, is_fitting, TWO + ((LAMP, LAMP),), (1, 1, 1, 1))
        self.gives(False, is_fitting, ((PLAIN, DARK),), STILL)
        self.gives(True, is_fitting, ((PLAIN, PLAIN),) * 6, (5, 1, 2, 3))
        self.gives(False, is_fitting, ((ALONG, ALONG),) * 5 + ((ALONG, SLANT),), STILL)

    def test_what_is_sure(self):
        draw = Draw(5)
        seen = {"one": 0, None: 0, "endless": 0}
        for _ in range(120):
            turn = draw.turn()
            lights = [draw.light(draw.chance.choice((1, 4))) for _ in range(draw.chance.randint(0, 3))]
            pairs = tuple([(light, turned_light(light, turn)) for light in lights])
            light = draw.light(2)
            if lights and draw.chance.randint(0, 1):
                level, *swing = numbers_of(lights[0])
                part = draw.chance.choice((-1, 1, Fraction(-2, 3), 2))
                light = row_of([abs(part) * level + 1] + [part * number for number in swing])
            many = span_of(pairs)
            is_sure = many > 1 or rank([swing_of(one) for one in lights] + [swing_of(light)]) == many
            self.gives(turned_light(light, turn) if is_sure else None, sure_image, pairs, light)
            seen[("one" if many > 1 else "endless") if is_sure else None] += 1
        self.assertGreater(min(seen.values()), 15)

    def test_edges_of_what_is_sure(self):
        for light in (DARK, PLAIN, (5, 0, 0, 0, 3)):
            for pairs in ((), ((PLAIN, PLAIN),), TWO[:1], TWO):
                self.gives(light, sure_image, pairs, light)
        self.gives(None, sure_image, (), ALONG)
        self.gives(None, sure_image, ((PLAIN, PLAIN), (DARK, DARK)), ALONG)
        self.gives((3, -1, 0, 0, 7), sure_image, ((ALONG, UPRIGHT),), (3, 1, 0, 0, 7))
        self.gives((3, 1, 0, 0, 7), sure_image, ((PLAIN, PLAIN), (ALONG, UPRIGHT)), (3, -1, 0, 0, 7))
        self.gives(None, sure_image, ((ALONG, UPRIGHT),), (3, 1, 1, 0, 7))
        self.gives(None, sure_image, ((ALONG, ALONG), (UPRIGHT, UPRIGHT)), SLANT)

    def test_wrong_arguments_of_pairs(self):
        indexed = wrong_lists((LAMP, LAMP), WRONG_PAIRS, 6)
        for function in (fitting_turn, turns_that_fit, bar_to_turn):
            self.checks_arguments(function, Argument("pairs", (), InvalidPairs, (), indexed))
        self.checks_arguments(
            is_fitting,
            Argument("pairs", TWO * 3, InvalidPairs, (), indexed),
            Argument("turn", STILL, InvalidTurn, WRONG_TURNS),
        )
        self.checks_arguments(
            sure_image,
            Argument("pairs", TWO * 3, InvalidPairs, (), indexed),
            Argument("light", LAMP, InvalidLight, WRONG_LIGHTS),
        )

    def test_no_turn_is_told_last(self):
        none = ((PLAIN, DARK),)
        self.refuses(InvalidLight, "given", None, lambda: sure_image(none, None))
        self.refuses(NoTurnFits, None, None, lambda: sure_image(pairs=none, light=PLAIN))
        self.refuses(InvalidPairs, "index", 6, lambda: sure_image(none * 7, None))


if __name__ == "__main__":
    unittest.main()
