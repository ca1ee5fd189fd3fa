"""Point [54] and platelights/certificates.py: claims that are so, with papers that the checker accepts."""

import unittest
from fractions import Fraction

from platelights.certificates import certify_courses, certify_fringes, certify_keeper, certify_level, certify_look
from platelights.certificates import certify_made, certify_mixture, certify_pairs, certify_patchwork, certify_readings
from platelights.certificates import certify_return, certify_rounds, certify_stacks, certify_turn
from platelights.checker import accepts
from platelights.courses import course_of, level_course
from platelights.errors import Dark, InvalidCourse, InvalidLight, InvalidLights, InvalidLook, InvalidMatrix, InvalidPairs
from platelights.errors import InvalidReadings, InvalidStack, InvalidTable, InvalidTables, InvalidTurn, NoLightFits
from platelights.plates import table_of_stack
from platelights.ranges import is_settled
from platelights.turns import turned_light
from tests.cases import Argument, Case
from tests.corpus import LINES, course_of_square
from tests.judge import is_claim, keeps_all_lights, made_rank, rounds_of, shows
from tests.reckon import keeps, mixed_rows, numbers_of, row_of, rows_of_stack, table_of_numbers
from tests.unknown import all_readings
from tests.values import ALONG, BIG, GLASS, HALF, LAMP, LEVEL, LOOK, NOUGHT, SLANT, UNIT, UPRIGHT, WRONG_COURSES, WRONG_LIGHTS
from tests.values import WRONG_LOOKS, WRONG_MATRICES, WRONG_PAIRS, WRONG_PLATES, WRONG_READINGS, WRONG_TABLES, WRONG_TURNS
from tests.values import Draw, wrong_lists

DARK, PLAIN, EAST, WEST, NORTH = (0, 0, 0, 0, 1), (1, 0, 0, 0, 1), (1, 1, 0, 0, 1), (1, -1, 0, 0, 1), (1, 0, 1, 0, 1)
CYCLE, MALUS = (("turner", (1, 1, 1, 1)),), (1, 0, 1, 0, 0, 1)
O, J = (0, 0), (1, 0)
BEAM, WHOLE, UP = ((J, O), (O, O)), ((J, O), (O, J)), ((O, O), (O, J))
I, Q = (1, 0, 0, 0), (1, 1, 0, 0)


class CertificatesTest(Case):

    def check(self, word, certify, *arguments):
        """Check that a claim of this word is certified, of what was passed, by a paper that is right; the paper."""
        told = certify(*arguments)
        self.gives(told, certify, *arguments)
        self.assertEqual(len(told), 2)
        claim, paper = told
        self.assertEqual(claim[:len(arguments) + 1], (word, *arguments))
        for one, two in zip(claim[1:], arguments):
            self.assertIs(one, two)
        self.assertTrue(is_claim(claim))
        self.assertTrue(shows(claim, paper), told)
        self.assertIs(accepts(claim, paper), True)
        return told

    def test_examples(self):
        self.gives((("order", (1, 1, 1, 1), 3), ()), certify_turn, (1, 1, 1, 1))
        self.gives((("never round", (2, 1, 0, 0)), ()), certify_turn, (2, 1, 0, 0))
        self.gives((("comes back", CYCLE, EAST, 3), ()), certify_return, CYCLE, EAST)
        self.gives(
            (("not brighter", MALUS, (0, 0, 0, 0, 0, 1)), ("setting", (1, 0))), certify_courses, MALUS,
            level_course((0, 1)),
        )

    def test_stacks(self):
        draw, seen = Draw(1), {True: 0, False: 0}
        for _ in range(40):
            one = draw.stack(2)
            for two in (draw.stack(2), one + (("grey", (1, 1)),), one[::-1], one):
                alike = rows_of_stack(one) == rows_of_stack(two)
                seen[alike] += 1
                self.check("alike" if alike else "unlike", certify_stacks, one, two)
        self.assertGreater(min(seen.values()), 40)
        self.check("alike", certify_stacks, (), ())
        self.check("alike", certify_stacks, (("magnet", (1, 1)),), (("turner", (1, 0, 0, 1)),))

    def test_keepers_and_made_tables(self):
        draw, seen = Draw(2), {}
        tables = [UNIT, GLASS, NOUGHT] + [draw.table(1) for _ in range(30)]
        tables += [table_of_stack(draw.stack(3)) for _ in range(30)]
        for table in tables:
            word, rank = "keeps" if keeps_all_lights(table) else "loses", made_rank(table)
            self.check(word, certify_keeper, table)
            made = "not made" if rank is None else "made"
            _, paper = self.check(made, certify_made, table)
            if rank is not None:
                self.assertEqual(len(paper), rank)
                self.assertIs(accepts(("rank", table, rank), ()), True)
            seen[word, made] = seen.get((word, made), 0) + 1
        self.assertEqual(set(seen), {("keeps", "made"), ("keeps", "not made"), ("loses", "not made")})

    def test_fringes(self):
        draw = Draw(3)
        for _ in range(30):
            one, two = draw.matrix(1), draw.matrix(1)
            word = certify_fringes(one, two)[0][0]
            self.assertIn(word, ("fringes", "no fringes"))
            self.check(word, certify_fringes, one, two)
        for one, two, word in (
            (BEAM, UP, "no fringes"), (BEAM, WHOLE, "fringes"), (WHOLE, ((O, O), (O, O)), "no fringes"),
            (BEAM, ((O, J), (O, O)), "fringes"),
            (BEAM, ((O, (0, 1)), (O, O)), "fringes"), (UP, WHOLE, "fringes"),
            (WHOLE, ((O, (0, -1)), ((0, 1), O)), "fringes"), (WHOLE, ((J, O), (O, (-1, 0))), "fringes"),
        ):
            self.check(word, certify_fringes, one, two)

    def test_readings_and_looks(self):
        draw, words = Draw(4), {}
        for family, readings in all_readings(5, 3):
            if family[2] == "none":
                _, paper = self.check("no light", certify_readings, readings)
                words[paper[0]] = words.get(paper[0], 0) + 1
                self.refuses(NoLightFits, None, None, lambda: certify_look(readings, LOOK))
                continue
            (_, _, light), _ = self.check("fits", certify_readings, readings)
            self.assertTrue(all(keeps(numbers_of(light), reading) for reading in readings))
            for look in [I, Q, draw.look(), draw.look()] + [reading[1] for reading in readings[:1]]:
                settled = is_settled(readings, look)
                _, paper = self.check("settled" if settled else "open", certify_look, readings, look)
                word = paper[1][0] if settled else family[6]
                words[word] = words.get(word, 0) + 1
        self.assertEqual(set(words), {"equations", "look", "edge", "sum", "inward", "grazing", "outward"})
        self.assertGreater(min(words.values()), 4, words)

    def test_edges_of_looks(self):
        one, ray, none = (("level", I, (1, 1)), ("level", Q, (2, 1))), (("level", Q, (0, 1)),), (("level", I, (0, 1)),)
        tight = (("level", I, (BIG, 1)), ("level", (1, 0, 1, 0), (2 * BIG - 1, 1)), ("level", (1, 0, 0, 1), (BIG, 1)))
        for readings, look, word in (
            (one, (1, 0, 1, 0), "settled"), (one, (1, -1, 0, 0), "settled"), (one, (3, 1, 0, 0), "settled"),
            (ray, Q, "settled"), (ray, I, "open"),
            (ray, (1, 0, 1, 0), "open"), (none, Q, "settled"), (none, I, "settled"), ((), I, "open"),
            (tight, Q, "open"), (tight, (2, 0, 1, 1), "settled"),
            (none * 8, LOOK, "settled"), ((("level", I, (1, BIG)),), Q, "open"), (one * 4, (9, 1, 2, 3), "settled"),
        ):
            self.check(word, certify_look, readings, look)

    def test_mixtures_and_patchworks(self):
        draw, seen = Draw(6), {}
        for _ in range(25):
            lights = tuple([draw.light(2) for _ in range(draw.chance.randint(1, 8))])
            tables = tuple([draw.table(1) for _ in range(draw.chance.randint(1, 6))])
            parts = [Fraction(draw.chance.randint(0, 3), 2) for _ in lights]
            mixed = [sum(part * numbers_of(light)[at] for part, light in zip(parts, lights)) for at in range(4)]
            self.check("mixture", certify_mixture, lights, row_of(mixed))
            patch = table_of_numbers(mixed_rows(tables, [Fraction(1, len(tables))] * len(tables)))
            self.check("patchwork", certify_patchwork, tables, patch)
            for certify, told, other in ((certify_mixture, lights, draw.light(2)), (certify_patchwork, tables, draw.table(2))):
                word = certify(told, other)[0][0]
                seen[word] = seen.get(word, 0) + 1
                self.check(word, certify, told, other)
        self.assertGreater(min(seen["mixture"], seen["no mixture"], seen["no patchwork"]), 4)
        self.check("mixture", certify_mixture, (EAST,), DARK)
        self.check("no mixture", certify_mixture, (DARK,), EAST)
        self.check("patchwork", certify_patchwork, (UNIT,) * 6, UNIT)
        self.check("no patchwork", certify_patchwork, (UNIT,), NOUGHT)

    def test_pairs_and_turns(self):
        draw, words = Draw(7), {}
        for _ in range(30):
            turn, lights = draw.turn(2), [draw.light(2) for _ in range(4)]
            fitting = tuple([(light, turned_light(light, turn)) for light in lights])
            (_, _, found), _ = self.check("leads", certify_pairs, fitting)
            self.assertTrue(all(turned_light(before, found) == after for before, after in fitting))
            mirror = tuple([(light, (*light[:3], -light[3], light[4])) for light in lights])
            for pairs in (mirror, fitting + ((draw.light(), draw.light()),), ((EAST, NORTH), (NORTH, NORTH))):
                word = certify_pairs(pairs)[0][0]
                _, paper = self.check(word, certify_pairs, pairs)
                words[paper[:1]] = words.get(paper[:1], 0) + 1
        self.assertEqual(set(words) - {()}, {("level",), ("product",), ("hand",)})
        self.check("leads", certify_pairs, ())
        for turn, order in (
            ((1, 0, 0, 0), 1), ((0, 1, 2, 3), 2), ((1, 1, 1, 1), 3), ((1, 0, 1, 0), 4), ((3, 1, 1, 1), 6),
            ((2, 1, 0, 0), None), ((1, 1, 1, 0), None),
        ):
            word = "never round" if order is None else "order"
            claim, paper = self.check(word, certify_turn, turn)
            self.assertEqual((claim[2:], paper), (() if order is None else (order,), ()))

    def test_courses(self):
        draw, words = Draw(8), {}
        for line in LINES:
            for part, other in ((1, level_course((0, 1))), (3, level_course((-1, 2))), (2, MALUS), (5, level_course((BIG, 1)))):
                course = course_of_square(line, part)
                self.seen_in(words, course, other)
                # The course of the square less nothing, put upon another one, lies on it where the square is 0.
                numbers = [one * other[5] + two * course[5] for one, two in zip(course[:5], other[:5])]
                self.seen_in(words, course_of(tuple(numbers), course[5] * other[5]), other)
        for _ in range(60):
            self.seen_in(words, course_of(draw.row(5, 3), draw.chance.randint(1, 4)), course_of(draw.row(5, 3), 3))
            self.seen_in(words, course_of((8, *draw.row(3, 4), 8), 3), course_of((1, 0, 2, 0, 1), 1))
        self.assertEqual(set(words), {"brighter", "setting", "square"})
        self.assertGreater(min(words.values()), 5, words)

    def seen_in(self, words, course, other):
        """Check the certificate of two courses, and count of which sort it is."""
        word = certify_courses(course, other)[0][0]
        _, paper = self.check(word, certify_courses, course, other)
        if word == "brighter":
            self.assertIs(accepts(("not brighter", course, other), ("setting", (0, 1))), False)
        sort = word if word == "brighter" else paper[0]
        words[sort] = words.get(sort, 0) + 1

    def test_touching_courses(self):
        # A course that is 0 at one setting or at angles that no setting tells, and nowhere below 0.
        for course, sort in (
            (course_of((1, -2, 2, -2, 1), 1), "setting"), (course_of((4, -4, 5, -4, 1), 1), "setting"),
            (course_of((1, -4, 6, -4, 1), 3), "setting"),
            (course_of((16, -32, 24, -8, 1), 1), "setting"), (course_of((81, 108, 54, 12, 1), 1), "setting"),
            (MALUS, "setting"), (course_of((0, 0, 1, 0, 1), 1), "setting"),
            (course_of((4, 0, -4, 0, 1), 1), "square"), (course_of((1, 2, -1, -2, 1), 7), "square"),
            (course_of((8, 0, -8, 0, 2), 1), "square"), (course_of((0, 0, 0, 0, 0), 1), "setting"),
            (course_of((27, -36, 21, -12, 4), 1), "setting"), (course_of((9, 0, -6, 0, 1), 2), "square"),
        ):
            _, paper = self.check("not brighter", certify_courses, course, level_course((0, 1)))
            self.assertEqual(paper[0], sort, course)

    def test_rounds(self):
        draw, words = Draw(9), {}
        cross = (ALONG, ("turner", (0, 0, 0, 1)))
        stacks = [(), (ALONG,), (HALF,), cross, CYCLE, (("dull", (1, 2)),), (ALONG, UPRIGHT), (ALONG, SLANT)]
        for stack in stacks + [draw.stack(3) for _ in range(30)]:
            word = certify_rounds(stack)[0][0]
            self.assertIn(word, ("fading", "unchanged"))
            self.check(word, certify_rounds, stack)
            words[word] = words.get(word, 0) + 1
            for light in (DARK, PLAIN, EAST, LAMP, draw.light()):
                claim, _ = self.check("last level", certify_level, stack, light)
                self.assertEqual(len(claim), 4)
                if light != DARK:
                    many = rounds_of(stack, light)
                    word = "never back" if many is None else "comes back"
                    claim, paper = self.check(word, certify_return, stack, light)
                    self.assertEqual((claim[3:], paper), (() if many is None else (many,), ()))
                    words[word] = words.get(word, 0) + 1
        self.assertGreater(min(words.values()), 10, words)
        self.assertEqual(set(words), {"fading", "unchanged", "never back", "comes back"})

    def test_numbers_with_many_figures(self):
        huge = 10 ** 399
        grey, light = ("grey", (huge - 1, huge)), (huge, huge - 1, 1, 0, huge - 3)
        self.check("alike", certify_stacks, (grey,), (grey, ("dull", (1, 1))))
        self.check("fading", certify_rounds, (grey,))
        self.check("last level", certify_level, (("dull", (1, huge)), ALONG), light)
        self.check("mixture", certify_mixture, (light, EAST), light)
        self.check("no mixture", certify_mixture, (light, EAST), NORTH)
        self.check("fits", certify_readings, (("level", I, (huge, huge - 1)),))
        self.check("open", certify_look, (("level", I, (huge, huge - 1)),), (huge, 1, 0, 0))
        self.check("not brighter", certify_courses, (huge, 1, 0, 1, -1, 7), MALUS)
        self.check("brighter", certify_courses, (huge, 1, 2 * huge, 1, huge + 1, 7), MALUS)

    def test_dark_and_no_light_are_told_last(self):
        self.refuses(Dark, None, None, lambda: certify_return((), DARK))
        self.refuses(InvalidStack, "index", 1, lambda: certify_return((ALONG, None), DARK))
        self.refuses(InvalidLight, "given", None, lambda: certify_return((), None))
        none = (("level", I, (-1, 1)),)
        self.refuses(NoLightFits, None, None, lambda: certify_look(none, I))
        self.refuses(InvalidLook, "given", None, lambda: certify_look(none, None))
        self.refuses(InvalidReadings, "index", 1, lambda: certify_look(none + (1,), None))

    def test_wrong_arguments(self):
        stack = Argument("stack", (ALONG,), InvalidStack, (), wrong_lists(ALONG, WRONG_PLATES, 8))
        other = Argument("other", (SLANT,), InvalidStack, (), wrong_lists(ALONG, WRONG_PLATES, 8))
        table, light = Argument(
            "table", GLASS, InvalidTable, WRONG_TABLES,
        ), Argument("light", LAMP, InvalidLight, WRONG_LIGHTS)
        readings = Argument("readings", (LEVEL,), InvalidReadings, (), wrong_lists(LEVEL, WRONG_READINGS, 8))
        lights = Argument("lights", (EAST,), InvalidLights, (), wrong_lists(LAMP, WRONG_LIGHTS, 8) + [((), None)])
        tables = Argument("tables", (UNIT,), InvalidTables, (), wrong_lists(UNIT, WRONG_TABLES, 6) + [((), None)])
        self.checks_arguments(certify_stacks, stack, other)
        self.checks_arguments(certify_keeper, table)
        self.checks_arguments(certify_made, table)
        self.checks_arguments(
            certify_fringes, Argument("one", BEAM, InvalidMatrix, WRONG_MATRICES),
            Argument("two", WHOLE, InvalidMatrix, WRONG_MATRICES),
        )
        self.checks_arguments(certify_readings, readings)
        self.checks_arguments(certify_look, readings, Argument("look", LOOK, InvalidLook, WRONG_LOOKS))
        self.checks_arguments(certify_mixture, lights, light)
        self.checks_arguments(certify_patchwork, tables, table)
        self.checks_arguments(
            certify_pairs,
            Argument("pairs", ((EAST, NORTH),), InvalidPairs, (), wrong_lists((LAMP, LAMP), WRONG_PAIRS, 6)),
        )
        self.checks_arguments(certify_turn, Argument("turn", (1, 1, 0, 0), InvalidTurn, WRONG_TURNS))
        self.checks_arguments(
            certify_courses, Argument("course", MALUS, InvalidCourse, WRONG_COURSES),
            Argument("other", MALUS, InvalidCourse, WRONG_COURSES),
        )
        self.checks_arguments(certify_rounds, stack)
        self.checks_arguments(certify_level, stack, light)
        self.checks_arguments(certify_return, stack, light)


if __name__ == "__main__":
    unittest.main()
