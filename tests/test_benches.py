"""Point [53], what [13], [25], [27], [30], [31], [35] and [36] say of wishes, and platelights/benches.py."""

import inspect
import unittest
from fractions import Fraction
from math import isqrt

from platelights.benches import Bench
from platelights.errors import Broken, InUse, InvalidIndex, InvalidLight, InvalidName, InvalidNames, InvalidNumber
from platelights.errors import InvalidPlate, InvalidWish, LightError, NameTaken, NothingToUndo, UnknownName
from platelights.rigs import course_of_rig
from tests.cases import NO_TUPLES, NO_WHOLES, PRICKLY, STRANGE, Case, is_plain
from tests.corpus import ONE_WAY
from tests.judge import NOUGHT as NOUGHTS
from tests.judge import rows_of_back
from tests.reckon import dot, led, level_of, numbers_of, pair_of, row_of, rows_of_stack, worth
from tests.stands import filled, story_of, whole_of
from tests.values import ALONG, BIG, HALF, LAMP, LOOK, SLANT, UPRIGHT, WRONG_LIGHTS, WRONG_LOOKS, WRONG_PLATES, Draw

I, Q = (1, 0, 0, 0), (1, 1, 0, 0)
DARK, PLAIN, EAST = (0, 0, 0, 0, 1), (1, 0, 0, 0, 1), (1, 1, 0, 0, 1)
RIGHT_NAMES = ("a", "z", "lamp", "abcdefghijkl", "zzzzzzzzzzzz", "none", "set", "light", "beam")
WRONG_NAMES = [value for value in STRANGE if type(value) is not str] + [
    "", "abcdefghijklm", "A", "Lamp", "lAmp", "a1", "1", "a b", " a", "a ", "a\n", "a-b", "a_b", "a.b", "\u00e9",
    "\u00df", "a:", ":", "`", "{", "@", "[",
    b"a", ("a",), ["a"], "a" * 100, 0, "one way",
]
WRONG_FRACTIONS = (None, True, 1, (2, 4), (1, 0), (1, -2), [1, 2], "1/2", (1,), (1, 2, 3), PRICKLY)


def some_wish(word):
    """A wish of a sort, about beams called beam and other."""
    return {
        "out": ("out", "beam", (1, 1, 0, 0, 2)), "same": ("same", "beam", "other"), "alike": ("alike", "beam", "other"),
        "at most": ("at most", "beam", I, (1, 2)), "at least": ("at least", "beam", Q, (1, 2)),
        "turned": ("turned", "beam", 0, I, (1, 2)),
        "one way": ("one way", "beam"), "fading": ("fading", "beam"),
    }[word]


WORDS = ("out", "same", "alike", "at most", "at least", "turned", "one way", "fading")
WRONG_WISHES = list(STRANGE) + [
    0, (), ("out",), "out", ("at", "beam", I, (1, 2)), ("at  most", "beam", I, (1, 2)), ("at_most", "beam", I, (1, 2)),
]
for _word in WORDS:
    _wish = some_wish(_word)
    WRONG_WISHES += [
        list(_wish), _wish + ((),), _wish + _wish[-1:], _wish[:-1], _wish[1:], (_word.upper(), *_wish[1:]),
        (None, *_wish[1:]), (PRICKLY, *_wish[1:]),
    ]
    WRONG_WISHES += [(_word, name, *_wish[2:]) for name in WRONG_NAMES]
WRONG_WISHES += [("out", "beam", light) for light in WRONG_LIGHTS]
WRONG_WISHES += [(word, "beam", name) for word in ("same", "alike") for name in WRONG_NAMES]
WRONG_WISHES += [(word, "beam", look, (1, 2)) for word in ("at most", "at least") for look in WRONG_LOOKS]
WRONG_WISHES += [(word, "beam", I, part) for word in ("at most", "at least") for part in WRONG_FRACTIONS]
WRONG_WISHES += [("turned", "beam", at, I, (1, 2)) for at in NO_WHOLES + (-1, 8, BIG)]
WRONG_WISHES += [("turned", "beam", 0, look, (1, 2)) for look in WRONG_LOOKS]
WRONG_WISHES += [("turned", "beam", 0, I, part) for part in WRONG_FRACTIONS]


class Model:
    """A bench as the document tells it, told once more in the plainest way."""

    def __init__(self):
        self.things = {}
        self.wishes = []

    def copy(self):
        other = Model()
        other.things, other.wishes = dict(self.things), list(self.wishes)
        return other

    def names(self, kind):
        return tuple(sorted(name for name, (own, _) in self.things.items() if own == kind))

    def stack(self, beam):
        return tuple([self.things[plate][1] for plate in self.things[beam][1][1]])

    def light(self, beam):
        return self.things[self.things[beam][1][0]][1]

    def out(self, beam):
        return led(rows_of_stack(self.stack(beam)), numbers_of(self.light(beam)))

    def holds(self, wish):
        word, beam = wish[:2]
        if word == "out":
            return self.out(beam) == numbers_of(wish[2])
        if word == "same":
            return self.out(beam) == self.out(wish[2])
        if word == "alike":
            return rows_of_stack(self.stack(beam)) == rows_of_stack(self.stack(wish[2]))
        if word in ("at most", "at least"):
            level = dot(wish[2], self.out(beam))
            return level <= worth(wish[3]) if word == "at most" else level >= worth(wish[3])
        if word == "turned":
            return self.turned_holds(*wish[1:])
        if word == "one way":
            return rows_of_stack(self.stack(beam)) != NOUGHTS and rows_of_back(self.stack(beam)) == NOUGHTS
        rows = rows_of_stack(self.stack(beam))
        for _ in range(12):
            rows = [[sum(row[k] * rows[k][at] for k in range(4)) for at in range(4)] for row in rows]
        return max(abs(number) for row in rows for number in row) < Fraction(1, 2)

    def turned_holds(self, beam, index, look, most):
        """By the levels at many settings; the wishes drawn here do not depend on what lies between them."""
        stack = self.stack(beam)
        if index >= len(stack):
            return False
        course = course_of_rig((stack[:index], stack[index], stack[index + 1:]), self.light(beam), look)
        settings = [(a, b) for a in range(-12, 13) for b in range(1, 13)] + [(1, 0)]
        return max(level_of(course, setting) for setting in settings) <= worth(most)

    def broken(self):
        for index, wish in enumerate(self.wishes):
            if not self.holds(wish):
                return index
        return None

    def whole(self, many):
        """The same as whole_of a bench."""
        names = self.names("light") + self.names("plate") + self.names("beam")
        things = tuple([(name, self.things[name][1], True) for name in names])
        beams = tuple([(name, self.stack(name), row_of(self.out(name))) for name in self.names("beam")])
        return (many, self.names("light"), self.names("plate"), self.names("beam"), tuple(self.wishes), things, beams)


class BenchTest(Case):

    def keeps_still(self, bench, error, attribute, worth, call):
        """Check that a call is refused and that the bench is as a whole what it was, with all its story."""
        before = story_of(bench)
        self.refuses(error, attribute, worth, call)
        self.assertEqual(story_of(bench), before)

    def test_example(self):
        bench = Bench()
        self.assertIsNone(bench.put_light("lamp", (1, 0, 0, 0, 1)))
        self.assertIsNone(bench.put_plate("first", ("polariser", (1, 0, 0, 1))))
        self.assertIsNone(bench.put_plate("last", ("polariser", (-1, 0, 0, 1))))
        self.assertIsNone(bench.lay("beam", "lamp", ("first", "last")))
        self.assertEqual(
            [bench.out("beam"), bench.out("beam", 1), bench.beams, bench.thing("beam"), len(bench)],
            [(0, 0, 0, 0, 1), (1, 1, 0, 0, 2), ("beam",), ("lamp", ("first", "last")), 4],
        )
        self.assertIsNone(bench.wish(("at most", "beam", (1, 0, 0, 0), (1, 4))))
        bench.put_plate("last", ("polariser", (0, 1, 0, 1)))
        self.assertEqual([bench.out("beam"), "last" in bench, len(bench)], [(1, 0, 1, 0, 4), True, 6])
        self.keeps_still(bench, Broken, "index", 0, lambda: bench.put_plate("last", ("polariser", (1, 0, 0, 1))))
        self.keeps_still(bench, InUse, "given", "beam", lambda: bench.drop("lamp"))
        self.keeps_still(bench, Broken, "index", 1, lambda: bench.wish(("turned", "beam", 1, (1, 0, 0, 0), (1, 4))))

    def test_an_empty_bench(self):
        bench = Bench()
        self.assertEqual(whole_of(bench), (0, (), (), (), (), (), ()))
        self.assertTrue(bench)
        self.assertIs(bool(bench), True)
        self.keeps_still(bench, NothingToUndo, None, None, lambda: bench.undo())
        self.keeps_still(bench, InvalidIndex, "given", 0, lambda: bench.lift(0))
        self.keeps_still(bench, UnknownName, "given", "lamp", lambda: bench.drop("lamp"))

    def test_calls_by_name(self):
        bench = Bench()
        self.assertEqual(len(inspect.signature(Bench).parameters), 0)
        bench.put_light(name="lamp", light=PLAIN)
        bench.put_plate(name="first", plate=ALONG)
        bench.lay(name="beam", light="lamp", plates=("first",))
        self.assertEqual(bench.thing(name="beam"), ("lamp", ("first",)))
        self.assertEqual(bench.stack(name="beam"), (ALONG,))
        self.assertEqual((bench.out(name="beam", many=0), bench.out(name="beam", many=None)), (PLAIN, (1, 1, 0, 0, 2)))
        bench.wish(wish=("at most", "beam", I, (1, 2)))
        bench.lift(index=0)
        bench.lay("beam", "lamp", ())
        bench.drop(name="first")
        self.assertEqual((bench.plates, bench.tried(action=len)), ((), 7))
        for name, parameters in (
            ("put_light", "name light"), ("put_plate", "name plate"), ("lay", "name light plates"), ("drop", "name"),
            ("thing", "name"), ("stack", "name"),
            ("out", "name many"), ("wish", "wish"), ("lift", "index"), ("undo", ""), ("trial", ""), ("tried", "action"),
        ):
            self.assertIn(name, vars(Bench))
            self.assertEqual(list(inspect.signature(getattr(bench, name)).parameters), parameters.split())
        self.assertIsNone(inspect.signature(bench.out).parameters["many"].default)
        for name in ("lights", "plates", "beams", "wishes"):
            self.assertIsInstance(vars(Bench)[name], property)
        for name in ("__len__", "__bool__", "__contains__"):
            self.assertIn(name, vars(Bench))

    def test_benches_are_equal_to_themselves_alone(self):
        one, two = filled(), filled()
        self.assertTrue(one == one and not one != one and one != two and not one == two)
        for value in STRANGE:
            if value is not PRICKLY:
                self.assertFalse(one == value)
                self.assertTrue(one != value)
        self.assertEqual(whole_of(one), whole_of(two))

    def test_names(self):
        for name in RIGHT_NAMES:
            bench = Bench()
            bench.put_light(name, PLAIN)
            self.assertEqual((bench.lights, name in bench), ((name,), True))
        bench = filled()
        for name in WRONG_NAMES:
            with self.subTest(name=repr(name) if name is not PRICKLY else "prickly"):
                self.refuses(InvalidName, "given", name, lambda: bench.put_light(name, PLAIN))
                self.refuses(InvalidName, "given", name, lambda: bench.put_light(name, None))
                self.refuses(InvalidName, "given", name, lambda: bench.put_plate(name, ALONG))
                self.refuses(InvalidName, "given", name, lambda: bench.put_plate(name, None))
                self.refuses(InvalidName, "given", name, lambda: bench.lay(name, "lamp", ()))
                self.refuses(InvalidName, "given", name, lambda: bench.lay(name, None, None))
                for method in (bench.drop, bench.thing, bench.stack, bench.out):
                    self.refuses(UnknownName, "given", name, lambda: method(name))
                self.refuses(UnknownName, "given", name, lambda: bench.out(name, None))
                self.refuses(UnknownName, "given", name, lambda: bench.out(name, -1))
                self.refuses(UnknownName, "given", name, lambda: bench.lay("way", name, ()))
                self.refuses(UnknownName, "given", name, lambda: bench.lay("way", name, None))
                self.assertIs(bench.__contains__(name), False)
        for name in ("lam", "lampe", "beams", "a"):
            for method in (bench.drop, bench.thing, bench.stack, bench.out):
                self.keeps_still(bench, UnknownName, "given", name, lambda: method(name))
        for name in ("lamp", "first"):
            for method in (bench.stack, bench.out):
                self.keeps_still(bench, UnknownName, "given", name, lambda: method(name))
        self.assertEqual(whole_of(bench), whole_of(filled()))

    def test_wrong_lights_plates_and_numbers(self):
        bench = filled()
        before = story_of(bench)
        for value in WRONG_LIGHTS:
            self.refuses(InvalidLight, "given", value, lambda: bench.put_light("new", value))
            self.refuses(InvalidLight, "given", value, lambda: bench.put_light("first", value))
        for value in WRONG_PLATES:
            self.refuses(InvalidPlate, "given", value, lambda: bench.put_plate("new", value))
            self.refuses(InvalidPlate, "given", value, lambda: bench.put_plate("lamp", value))
        for value in NO_WHOLES + (-1, 4, 9, BIG, -BIG):
            if value is not None:
                self.refuses(InvalidNumber, "given", value, lambda: bench.out("other", value))
        for value in NO_WHOLES + (-1, 0, 1, BIG):
            self.refuses(InvalidIndex, "given", value, lambda: bench.lift(value))
        self.assertEqual(story_of(bench), before)
        bench.wish(("fading", "other"))
        bench.wish(("at most", "beam", I, (1, 1)))
        before = story_of(bench)
        for value in NO_WHOLES + (-1, 2, 3, BIG):
            self.refuses(InvalidIndex, "given", value, lambda: bench.lift(value))
        self.assertEqual(story_of(bench), before)

    def test_beams_that_cannot_be_laid(self):
        bench = filled()
        before = story_of(bench)
        for light in ("first", "beam", "lam", "new"):
            self.refuses(UnknownName, "given", light, lambda: bench.lay("new", light, ()))
        for plates in NO_TUPLES + ("first", ["first"]):
            self.refuses(InvalidNames, "index", None, lambda: bench.lay("new", "lamp", plates))
            self.refuses(InvalidNames, "index", None, lambda: bench.lay("first", "lamp", plates))
        for name in list(WRONG_NAMES) + ["lamp", "beam", "new", "firs"]:
            for plates, index in (((name,), 0), (("first", name), 1), (("first", name, name), 1), (("first",) * 7 + (name,), 7), ((name,) * 9, 0),
                                  (("first",) * 8 + (name,), 8)):
                self.refuses(InvalidNames, "index", index, lambda: bench.lay("new", "lamp", plates))
        for many in (9, 10, 20):
            self.refuses(InvalidNames, "index", 8, lambda: bench.lay("new", "lamp", ("net",) * many))
        for name in ("lamp", "first"):
            self.refuses(NameTaken, "given", name, lambda: bench.lay(name, "lamp", ()))
            self.refuses(InvalidNames, "index", 0, lambda: bench.lay(name, "lamp", ("new",)))
        self.assertEqual(story_of(bench), before)
        bench.lay("empty", "sun", ())
        bench.lay("full", "sun", ("net",) * 8)
        self.assertEqual(
            (bench.out("empty"), bench.out("empty", 0), bench.stack("empty")), ((2, 1, 0, 0, 1), (2, 1, 0, 0, 1), ()),
        )
        self.assertEqual((bench.out("full"), bench.stack("full")), ((2, 1, 0, 0, 256), (HALF,) * 8))
        for many, below in ((0, 1), (1, 2), (7, 128), (8, 256)):
            self.assertEqual(bench.out("full", many), (2, 1, 0, 0, below))
        self.refuses(InvalidNumber, "given", 9, lambda: bench.out("full", 9))
        self.refuses(InvalidNumber, "given", 1, lambda: bench.out("empty", 1))

    def test_names_that_are_taken(self):
        bench = filled()
        for name in ("first", "beam"):
            self.keeps_still(bench, NameTaken, "given", name, lambda: bench.put_light(name, PLAIN))
        for name in ("lamp", "beam"):
            self.keeps_still(bench, NameTaken, "given", name, lambda: bench.put_plate(name, HALF))
        self.keeps_still(bench, NameTaken, "given", "sun", lambda: bench.lay("sun", "sun", ("net",)))
        # A thing of the same sort may be put in the place of another one, or of itself.
        bench.put_light("lamp", PLAIN)
        bench.put_light("lamp", EAST)
        bench.put_plate("first", HALF)
        bench.lay("beam", "sun", ("net", "net"))
        self.assertEqual(
            (bench.thing("lamp"), bench.thing("first"), bench.thing("beam"), len(bench)),
            (EAST, HALF, ("sun", ("net", "net")), 11),
        )
        self.assertEqual(bench.out("beam"), (2, 1, 0, 0, 4))
        bench.lay("beam", "lamp", ())
        for name in ("beam", "other"):
            bench.drop(name)
            self.assertNotIn(name, bench)
        bench.put_light("beam", PLAIN)
        self.assertEqual((bench.lights, bench.beams), (("beam", "lamp", "sun"), ()))

    def test_things_in_use(self):
        bench = filled()
        for name, beam in (("lamp", "beam"), ("sun", "other"), ("first", "beam"), ("last", "other")):
            self.keeps_still(bench, InUse, "given", beam, lambda: bench.drop(name))
        bench.lay("another", "lamp", ("last",))
        for name, beam in (("lamp", "another"), ("last", "another"), ("first", "beam"), ("sun", "other")):
            self.keeps_still(bench, InUse, "given", beam, lambda: bench.drop(name))
        bench.drop("net")
        bench.drop("another")
        self.keeps_still(bench, InUse, "given", "beam", lambda: bench.drop("lamp"))
        bench.wish(("at most", "other", I, (2, 1)))
        bench.wish(("same", "beam", "beam"))
        bench.wish(("at least", "beam", I, (0, 1)))
        self.keeps_still(bench, Broken, "index", 1, lambda: bench.drop("beam"))
        self.keeps_still(bench, Broken, "index", 0, lambda: bench.drop("other"))
        bench.lift(1)
        self.keeps_still(bench, Broken, "index", 1, lambda: bench.drop("beam"))
        bench.lift(1)
        bench.drop("beam")
        self.assertEqual((bench.beams, bench.wishes), (("other",), (("at most", "other", I, (2, 1)),)))
        bench.drop("lamp")
        bench.lay("way", "sun", ("first",))
        bench.wish(("alike", "way", "way"))
        self.keeps_still(bench, Broken, "index", 1, lambda: bench.drop("way"))

    def test_wrong_wishes(self):
        bench = filled()
        bench.wish(("at most", "other", I, (3, 1)))
        before = story_of(bench)
        for wish in WRONG_WISHES:
            self.refuses(InvalidWish, "given", wish, lambda: bench.wish(wish))
        for name in ("lamp", "first", "net", "new", "bea", "beams"):
            for word in WORDS:
                wish = some_wish(word)
                self.refuses(UnknownName, "given", name, lambda: bench.wish((word, name, *wish[2:])))
            for word in ("same", "alike"):
                self.refuses(UnknownName, "given", name, lambda: bench.wish((word, "beam", name)))
                self.refuses(UnknownName, "given", name, lambda: bench.wish((word, name, "unknown")))
        for wish in (
            ("same", "unknown", 1), ("alike", 1, "unknown"), ("at most", "unknown", I, None), ("turned", "unknown", 8, I, (1, 1)),
        ):
            self.refuses(InvalidWish, "given", wish, lambda: bench.wish(wish))
        self.assertEqual(story_of(bench), before)

    def test_wishes_told_twice_and_lifted_once(self):
        bench, wish = filled(), ("at most", "beam", I, (1, 2))
        bench.wish(wish)
        bench.wish(("fading", "other"))
        bench.wish(wish)
        self.assertEqual((bench.wishes, len(bench)), ((wish, ("fading", "other"), wish), 10))
        bench.lift(0)
        self.assertEqual(bench.wishes, (("fading", "other"), wish))
        self.keeps_still(bench, Broken, "index", 1, lambda: bench.put_light("lamp", (9, 0, 0, 0, 1)))
        bench.lift(1)
        bench.put_light("lamp", (9, 0, 0, 0, 1))
        self.assertEqual((bench.wishes, len(bench)), ((("fading", "other"),), 13))
        bench.lift(0)
        self.assertEqual(bench.wishes, ())

    def wish_of(self, light, plates, wish, told, others=()):
        """Check whether a wish about a beam called beam holds, when it is made and after changes."""
        bench = Bench()
        bench.put_light("lamp", PLAIN)
        for name, stack in (("beam", plates), ("other", others)):
            names = []
            for at, plate in enumerate(stack):
                names.append(name[:4] + "abcdefgh"[at])
                bench.put_plate(names[-1], plate)
            bench.put_light("of" + name, light if name == "beam" else PLAIN)
            bench.lay(name, "of" + name, tuple(names))
        if told:
            bench.wish(wish)
            self.assertEqual(bench.wishes, (wish,))
        else:
            self.keeps_still(bench, Broken, "index", 0, lambda: bench.wish(wish))
        # The same by a change: the beam as it was is put in the place of one for which the wish holds, or not.
        for start in self.starts(wish):
            self.changed_to(bench, start, wish, told)

    def starts(self, wish):
        """Beams, each a light and plates, for which a wish holds."""
        return {
            "out": [], "same": [(PLAIN, ())], "alike": [(PLAIN, ())], "at most": [(DARK, ())],
            "at least": [((BIG, 0, 0, 0, 1), ())],
            "turned": [(DARK, (HALF,) * 8)], "one way": [(PLAIN, ONE_WAY[0])], "fading": [(PLAIN, (HALF,))],
        }[wish[0]]

    def changed_to(self, bench, start, wish, told):
        """Check a wish by changing a beam for which it holds into the one on the bench."""
        if wish[0] in ("same", "alike") or bench.wishes or wish[-1] in ((-1, 2), (-1, BIG)):
            return
        light, plates = bench.thing("beam")
        try:
            with bench.trial():
                bench.put_light("start", start[0])
                for at, plate in enumerate(start[1]):
                    bench.put_plate("start" + "abcdefgh"[at], plate)
                bench.lay("beam", "start", tuple(["start" + "abcdefgh"[at] for at in range(len(start[1]))]))
                bench.wish(wish)
                if told:
                    bench.lay("beam", light, plates)
                else:
                    self.keeps_still(bench, Broken, "index", 0, lambda: bench.lay("beam", light, plates))
                raise EOFError()
        except EOFError:
            pass

    def test_each_sort_of_wish_just_holds_and_just_fails(self):
        tiny = (BIG + 1, 2 * BIG)
        for light, plates, wish, told in (
            (PLAIN, (ALONG,), ("out", "beam", (1, 1, 0, 0, 2)), True),
            (PLAIN, (ALONG,), ("out", "beam", (1, 1, 0, 0, 3)), False), (PLAIN, (), ("out", "beam", PLAIN), True),
            (PLAIN, (ALONG, UPRIGHT), ("out", "beam", DARK), True),
            (PLAIN, (ALONG,), ("at most", "beam", I, (1, 2)), True),
            (PLAIN, (ALONG,), ("at most", "beam", I, (BIG - 1, 2 * BIG)), False),
            (PLAIN, (ALONG,), ("at least", "beam", I, (1, 2)), True),
            (PLAIN, (ALONG,), ("at least", "beam", I, tiny), False),
            (PLAIN, (ALONG,), ("at most", "beam", (1, -1, 0, 0), (0, 1)), True),
            (PLAIN, (ALONG,), ("at least", "beam", (2, 1, 0, 0), (3, 2)), True),
            (PLAIN, (ALONG,), ("at most", "beam", I, (-1, 2)), False),
            (PLAIN, (ALONG,), ("at least", "beam", I, (-1, 2)), True),
            (PLAIN, ONE_WAY[0], ("one way", "beam"), True), (PLAIN, ONE_WAY[0][::-1], ("one way", "beam"), False),
            (PLAIN, ONE_WAY[1], ("one way", "beam"), True),
            (PLAIN, (), ("one way", "beam"), False), (PLAIN, (ALONG, UPRIGHT), ("one way", "beam"), False),
            (PLAIN, (ALONG, ("magnet", (1, 1))), ("one way", "beam"), False),
            (PLAIN, (("grey", (BIG - 1, BIG)),), ("fading", "beam"), True), (PLAIN, (), ("fading", "beam"), False),
            (DARK, (), ("fading", "beam"), False), (PLAIN, (ALONG, SLANT), ("fading", "beam"), True),
            (PLAIN, (("dull", (0, 1)),), ("fading", "beam"), False), (PLAIN, (ALONG,), ("fading", "beam"), False),
            (PLAIN, (ALONG, ("turner", (0, 0, 0, 1))), ("fading", "beam"), True),
            (PLAIN, (ALONG, ("turner", (BIG, 0, 0, 1))), ("fading", "beam"), True),
            (DARK, (("grey", (0, 1)),), ("fading", "beam"), True),
        ):
            with self.subTest(wish=wish, plates=plates):
                self.wish_of(light, plates, wish, told)
        for plates, others, word, told in (
            ((ALONG,), (ALONG, ALONG), "same", True), ((ALONG,), (ALONG, ALONG), "alike", True),
            ((ALONG,), (SLANT,), "same", False), ((), (("glass",),), "same", True),
            ((), (("glass",),), "alike", False), ((("magnet", (1, 1)),), (("turner", (1, 0, 0, 1)),), "alike", True),
            ((), (("grey", (1, 1)),), "alike", True),
            ((), (("grey", (BIG - 1, BIG)),), "same", False), ((("dull", (1, 2)),), (), "same", True),
            ((("dull", (1, 2)),), (), "alike", False),
        ):
            with self.subTest(word=word, plates=plates, others=others):
                self.wish_of(PLAIN, plates, (word, "beam", "other"), told, others)
                self.wish_of(PLAIN, plates, (word, "other", "beam"), told, others)
        self.wish_of(EAST, (ALONG,), ("same", "beam", "other"), False, (ALONG,))
        self.wish_of(EAST, (ALONG,), ("alike", "beam", "other"), True, (ALONG,))

    def test_plates_that_are_turned_on(self):
        for light, plates, wish, told in (
            (EAST, (ALONG,), ("turned", "beam", 0, I, (1, 1)), True),
            (EAST, (ALONG,), ("turned", "beam", 0, I, (BIG - 1, BIG)), False),
            (PLAIN, (ALONG,), ("turned", "beam", 0, I, (1, 2)), True),
            (PLAIN, (ALONG,), ("turned", "beam", 1, I, (1, 2)), False),
            (PLAIN, (), ("turned", "beam", 0, I, (BIG, 1)), False),
            (PLAIN, (ALONG,) * 8, ("turned", "beam", 7, I, (1, 2)), True),
            (PLAIN, (ALONG,) * 8, ("turned", "beam", 7, I, (499, 1000)), False),
            (PLAIN, (ALONG,) * 7, ("turned", "beam", 7, I, (1, 1)), False),
            (PLAIN, (ALONG, UPRIGHT), ("turned", "beam", 1, I, (1, 2)), True),
            (PLAIN, (ALONG, UPRIGHT), ("turned", "beam", 0, I, (1, 4)), False),
            (PLAIN, (ALONG, ("turner", (0, 1, 0, 0)), UPRIGHT), ("turned", "beam", 1, I, (1, 2)), True),
            (PLAIN, (ALONG, ("turner", (0, 1, 0, 0)), UPRIGHT), ("turned", "beam", 1, I, (49, 100)), False),
            (PLAIN, (ALONG, ("glass",)), ("turned", "beam", 1, Q, (1, 1)), True),
            (EAST, (("set", (1, 3), ALONG),), ("turned", "beam", 0, I, (1, 1)), True),
            (EAST, (("set", (1, 3), ALONG),), ("turned", "beam", 0, I, (99, 100)), False),
            (DARK, (ALONG,), ("turned", "beam", 0, I, (0, 1)), True),
            (DARK, (ALONG,), ("turned", "beam", 0, I, (-1, BIG)), False),
        ):
            with self.subTest(wish=wish, plates=plates):
                self.wish_of(light, plates, wish, told)
        # Of this light the level goes to (2 + root 2) / 2, at an angle that no setting tells.
        low = isqrt(2 * 10 ** 78)
        for above, told in ((0, False), (1, True)):
            most = Fraction(2 * 10 ** 39 + low + above, 2 * 10 ** 39)
            self.wish_of((2, 1, 1, 0, 1), (ALONG,), ("turned", "beam", 0, I, pair_of(most)), told)

    def test_changes_that_break_several_wishes(self):
        bench = filled()
        for wish in (
            ("at least", "other", I, (1, 4)), ("at least", "beam", I, (1, 2)), ("at most", "beam", I, (1, 2)),
            ("alike", "beam", "beam"), ("out", "beam", (1, 1, 0, 0, 2)),
        ):
            bench.wish(wish)
        self.keeps_still(bench, Broken, "index", 1, lambda: bench.put_light("lamp", DARK))
        self.keeps_still(bench, Broken, "index", 2, lambda: bench.put_light("lamp", (2, 0, 0, 0, 1)))
        self.keeps_still(bench, Broken, "index", 4, lambda: bench.put_plate("first", SLANT))
        self.keeps_still(bench, Broken, "index", 0, lambda: bench.put_plate("first", ("grey", (0, 1))))
        self.keeps_still(bench, Broken, "index", 0, lambda: bench.put_light("sun", DARK))
        self.keeps_still(bench, Broken, "index", 0, lambda: bench.put_plate("last", ("grey", (0, 1))))
        self.keeps_still(bench, Broken, "index", 1, lambda: bench.lay("beam", "lamp", ("first", "last")))
        self.keeps_still(bench, Broken, "index", 2, lambda: bench.lay("beam", "sun", ()))
        self.keeps_still(bench, Broken, "index", 5, lambda: bench.wish(("at most", "beam", I, (1, 3))))
        bench.put_plate("net", ALONG)
        bench.lay("beam", "lamp", ("net", "net", "first"))
        bench.put_light("sun", (9, 9, 0, 0, 1))
        self.assertEqual((len(bench), bench.out("beam")), (15, (1, 1, 0, 0, 2)))

    def test_undoing(self):
        bench = filled()
        told, wish = [], ("at most", "beam", I, (1, 2))
        for change in (
            lambda: bench.wish(wish), lambda: bench.put_light("lamp", PLAIN), lambda: bench.drop("net"),
            lambda: bench.lift(0), lambda: bench.put_light("lamp", (7, 0, 0, 0, 1)),
            lambda: bench.lay("beam", "sun", ()), lambda: bench.drop("beam"), lambda: bench.wish(("fading", "other")),
            lambda: bench.put_plate("last", UPRIGHT),
        ):
            told.append(whole_of(bench))
            self.assertIsNone(change())
            self.assertEqual(len(bench), len(told) + 7)
        while told:
            self.assertIsNone(bench.undo())
            self.assertEqual(whole_of(bench), told.pop())
        self.assertEqual(whole_of(bench), whole_of(filled()))
        for many in range(6, -1, -1):
            bench.undo()
            self.assertEqual(len(bench), many)
        self.assertEqual(whole_of(bench), whole_of(Bench()))
        for _ in range(2):
            self.keeps_still(bench, NothingToUndo, None, None, lambda: bench.undo())
        bench.put_light("beam", PLAIN)
        self.assertEqual((bench.lights, len(bench)), (("beam",), 1))
        bench.undo()
        self.assertEqual(whole_of(bench), whole_of(Bench()))

    def test_trials(self):
        class Strange(Exception):
            pass
        bench = filled()
        before = story_of(bench)
        for error in (Strange, ValueError, KeyError, KeyboardInterrupt, GeneratorExit, StopIteration):
            made = error("why")
            with self.assertRaises(error) as caught:
                with bench.trial() as same:
                    self.assertIs(same, bench)
                    bench.put_light("lamp", DARK)
                    bench.drop("net")
                    raise made
            self.assertIs(caught.exception, made)
            self.assertEqual(story_of(bench), before)
        with self.assertRaises(Broken):
            with bench.trial():
                bench.wish(("at most", "beam", I, (1, 2)))
                bench.put_light("lamp", (9, 0, 0, 0, 1))
        self.assertEqual(story_of(bench), before)
        with bench.trial() as same:
            bench.put_light("lamp", DARK)
            same.drop("net")
        self.assertEqual((len(bench), bench.plates, bench.thing("lamp")), (9, ("first", "last"), DARK))
        bench.undo()
        bench.undo()
        self.assertEqual(story_of(bench), before)

    def test_trials_within_trials(self):
        bench = filled()
        before = story_of(bench)
        with self.assertRaises(ZeroDivisionError):
            with bench.trial():
                bench.drop("net")
                with bench.trial():
                    bench.put_light("lamp", DARK)
                inner = story_of(bench)
                with self.assertRaises(LightError):
                    with bench.trial():
                        bench.put_light("lamp", EAST)
                        bench.undo()
                        bench.undo()
                        bench.undo()
                        self.assertEqual(len(bench), 7)
                        bench.drop("lamp")
                self.assertEqual(story_of(bench), inner)
                self.assertEqual(bench.thing("lamp"), DARK)
                raise ZeroDivisionError()
        self.assertEqual(story_of(bench), before)

    def test_changes_taken_back_within_a_trial(self):
        bench = filled()
        before = story_of(bench)
        with self.assertRaises(EOFError):
            with bench.trial():
                while len(bench) > 0:
                    bench.undo()
                self.refuses(NothingToUndo, None, None, bench.undo)
                bench.put_plate("lamp", HALF)
                raise EOFError()
        self.assertEqual(story_of(bench), before)
        with bench.trial():
            bench.undo()
            bench.undo()
            bench.put_plate("net", ALONG)
        self.assertEqual((len(bench), bench.beams, bench.thing("net")), (6, (), ALONG))
        bench.undo()
        self.assertEqual(story_of(bench), before[2:])

    def test_a_trial_alone_changes_nothing(self):
        bench = filled()
        before = story_of(bench)
        trial = bench.trial()
        bench.trial()
        self.assertEqual(story_of(bench), before)
        bench.drop("net")
        after = story_of(bench)
        for _ in range(2):
            # What counts is how the bench was when the statement began, also when it is begun again.
            with self.assertRaises(EOFError):
                with trial:
                    bench.put_light("lamp", DARK)
                    raise EOFError()
            self.assertEqual(story_of(bench), after)

    def test_actions_that_are_tried(self):
        bench, seen = filled(), []
        before = story_of(bench)

        def good(same):
            seen.append(same)
            same.drop("net")
            return ("told", len(same))

        def bad(same):
            good(same)
            same.tried(lambda inner: inner.put_light("lamp", DARK))
            raise KeyError("bad")

        def wrong(same):
            good(same)
            same.drop("lamp")
        self.assertRaises(KeyError, bench.tried, bad)
        self.assertEqual(story_of(bench), before)
        self.keeps_still(bench, InUse, "given", "beam", lambda: bench.tried(wrong))
        self.assertEqual(bench.tried(good), ("told", 8))
        self.assertEqual((len(bench), bench.plates), (8, ("first", "last")))
        self.assertTrue(all(same is bench for same in seen))
        self.assertEqual(len(seen), 3)
        self.assertIsNone(bench.tried(lambda same: None))
        self.assertIs(bench.tried(lambda same: same), bench)
        self.assertEqual(len(bench), 8)

    def test_what_is_told_does_not_change(self):
        bench = filled()
        told = (bench.lights, bench.plates, bench.beams, bench.wishes, bench.stack("beam"), bench.thing("beam"))
        self.assertTrue(is_plain(told))
        bench.put_plate("first", HALF)
        self.assertEqual(told[4], (ALONG,))
        self.assertEqual(bench.stack("beam"), (HALF,))
        for name in ("lights", "plates", "beams", "wishes"):
            self.assertEqual(getattr(bench, name), getattr(bench, name))

    def drawn_change(self, draw, bench):
        """A change by chance: its name for the model, and its arguments."""
        words = ("put_light", "put_plate", "lay") * 2 + ("wish",) * 3 + ("drop", "lift", "undo")
        word = draw.chance.choice(words)
        own = {"put_light": "ab", "put_plate": "cd", "lay": "ef"}.get(word, "abcdef")
        name = draw.chance.choice(own if draw.chance.randint(0, 5) else "abcdefg")
        names = bench.beams or ("a",)
        if word == "put_light":
            return word, (name, draw.chance.choice((PLAIN, EAST, DARK, draw.light(2))))
        if word == "put_plate":
            return word, (name, draw.chance.choice((ALONG, SLANT, UPRIGHT, HALF, draw.plate())))
        if word == "lay":
            plates = tuple([draw.chance.choice(bench.plates or ("a",)) for _ in range(draw.chance.randint(0, 3))])
            return word, (name, draw.chance.choice(bench.lights or ("a",)), plates)
        if word == "drop":
            return word, (name,)
        if word == "lift":
            return word, (draw.chance.randint(0, 3),)
        if word == "undo":
            return word, ()
        one, two = draw.chance.choice(names), draw.chance.choice(names)
        return word, (draw.chance.choice((
            ("same", one, two), ("alike", one, two), ("at most", one, I, draw.fraction(4)),
            ("at least", one, Q, (0, 1)), ("at most", one, Q, (2, 1)),
            ("turned", one, draw.chance.randint(0, 1), I, (draw.chance.randint(1, 9), 1)), ("fading", one),
            ("one way", one), ("out", one, PLAIN), ("out", one, DARK),
        )),)

    def expected(self, model, word, arguments):
        """The model after a change, or the error that is raised with what it keeps."""
        other = model.copy()
        if word == "wish":
            wish = arguments[0]
            for name in (wish[1:3] if wish[0] in ("same", "alike") else wish[1:2]):
                if name not in model.names("beam"):
                    return UnknownName, name
            return (Broken, len(model.wishes)) if not model.holds(wish) else self.with_wish(other, wish)
        if word == "lift":
            if arguments[0] >= len(model.wishes):
                return InvalidIndex, arguments[0]
            del other.wishes[arguments[0]]
            return None, other
        name = arguments[0]
        if word == "drop":
            return self.expected_drop(model, other, name)
        kind = {"put_light": "light", "put_plate": "plate", "lay": "beam"}[word]
        if word == "lay":
            if arguments[1] not in model.names("light"):
                return UnknownName, arguments[1]
            for index, plate in enumerate(arguments[2]):
                if plate not in model.names("plate"):
                    return InvalidNames, index
        if name in model.things and model.things[name][0] != kind:
            return NameTaken, name
        other.things[name] = (kind, arguments[1] if word != "lay" else arguments[1:])
        return (None, other) if other.broken() is None else (Broken, other.broken())

    def with_wish(self, model, wish):
        model.wishes.append(wish)
        return None, model

    def expected_drop(self, model, other, name):
        if name not in model.things:
            return UnknownName, name
        for beam in model.names("beam"):
            light, plates = model.things[beam][1]
            if name == light or name in plates:
                return InUse, beam
        for index, wish in enumerate(model.wishes):
            if name in (wish[1:3] if wish[0] in ("same", "alike") else wish[1:2]):
                return Broken, index
        del other.things[name]
        return None, other

    def test_changes_by_chance(self):
        draw, seen = Draw(1), {}
        for _ in range(40):
            bench, models = Bench(), [Model()]
            for _ in range(80):
                word, arguments = self.drawn_change(draw, bench)
                if word == "undo":
                    if len(models) > 1 and draw.chance.randint(0, 3) == 0:
                        bench.undo()
                        models.pop()
                        self.assertEqual(whole_of(bench), models[-1].whole(len(models) - 1))
                    continue
                error, worth_of = self.expected(models[-1], word, arguments)
                seen[word, error] = seen.get((word, error), 0) + 1
                if error is None:
                    self.assertIsNone(getattr(bench, word)(*arguments))
                    models.append(worth_of)
                else:
                    with self.assertRaises(error) as caught:
                        getattr(bench, word)(*arguments)
                    self.assertIs(type(caught.exception), error)
                    self.assertEqual(list(vars(caught.exception).values()), [worth_of], (word, arguments))
                self.assertEqual(whole_of(bench), models[-1].whole(len(models) - 1))
                self.assertIsNone(models[-1].broken())
        for key in (
            ("put_light", None), ("put_light", NameTaken), ("put_light", Broken), ("put_plate", None),
            ("put_plate", NameTaken), ("put_plate", Broken), ("lay", None), ("lay", UnknownName),
            ("lay", NameTaken), ("lay", Broken), ("drop", None), ("drop", UnknownName), ("drop", InUse),
            ("drop", Broken), ("wish", None), ("wish", UnknownName), ("wish", Broken), ("lift", None),
            ("lift", InvalidIndex),
        ):
            self.assertGreater(seen.get(key, 0), 2, (key, seen))

    def test_numbers_with_many_figures(self):
        huge, bench = 10 ** 399, Bench()
        bench.put_light("lamp", (huge, huge - 1, 3, 0, huge + 7))
        bench.put_plate("net", ("partial", (1, 0, 0, 1), (huge - 1, huge), (1, huge)))
        bench.lay("beam", "lamp", ("net",) * 8)
        numbers = led(rows_of_stack(bench.stack("beam")), numbers_of(bench.thing("lamp")))
        self.assertEqual(bench.out("beam"), row_of(numbers))
        bench.wish(("at most", "beam", (huge, 1, 0, 0), (huge, 1)))
        bench.wish(("out", "beam", row_of(numbers)))
        self.keeps_still(bench, Broken, "index", 1, lambda: bench.put_light("lamp", LAMP))
        self.assertEqual(bench.wishes[0][2], (huge, 1, 0, 0))
        bench.wish(("at least", "beam", LOOK, (-huge, 1)))


if __name__ == "__main__":
    unittest.main()
