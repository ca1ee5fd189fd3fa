"""Right and wrong values of each sort, and values drawn from a fixed row of numbers."""

import random
from math import gcd

from tests.cases import NO_TUPLES, PRICKLY, STRANGE, with_each_replaced, wrong_rows

BIG = 10 ** 60

WRONG_FRACTIONS = list(STRANGE) + wrong_rows((1, 2)) + [
    0, 1, (2, 4), (0, 2), (0, -1), (1, 0), (0, 0), (-1, 0), (1, -2), (-3, -4), (1, 1, 1), (2, 2), (-2, 4), (BIG, BIG),
]
WRONG_LIGHTS = list(STRANGE) + wrong_rows((2, 1, 0, 0, 3)) + [
    0, (2, 0, 0, 0, 2), (0, 0, 0, 0, 2), (0, 0, 0, 0, 0), (0, 0, 0, 0, -1), (1, 0, 0, 0, 0), (1, 0, 0, 0, -1),
    (-1, 0, 0, 0, 1), (-2, 1, 0, 0, 1), (1, 2, 0, 0, 1), (1, 1, 1, 0, 1), (1, 0, -1, 1, 1), (0, 0, 0, 1, 1),
    (4, 2, 0, 0, 6), (BIG, BIG, 1, 0, 1), (1, 1, 0, 0), (1, 1, 0, 0, 1, 1), (3, 2, 2, 2, 1),
]
WRONG_KINDS = list(STRANGE) + wrong_rows((2, 1, 2, 3)) + [
    0, (0, 0, 0, 0), (0, 0, 0, 1), (1, 0, 0, -1), (1, 0, 0, 0), (2, 0, 0, 2), (1, 1, 0, 1), (1, 0, 0, 2), (1, 1, 1, 1),
    (-2, -1, -2, -3), (4, 2, 4, 6), (1, 0, 0), (1, 0, 0, 1, 1), (0, 0, BIG, BIG), (0, BIG, 1, BIG), (3, 0, 4, 7),
]
WRONG_LOOKS = list(STRANGE) + wrong_rows((2, 1, 0, 1)) + [
    0, (0, 0, 0, 0), (2, 0, 0, 0), (2, 2, 0, 0), (-1, 0, 0, 0), (-1, 1, 0, 0), (1, 1, 1, 0), (1, 0, 2, 0), (0, 0, 0, 1),
    (1, 1, 0, 0, 1), (1, 0, 0), (6, 2, 2, 4),
]
UNIT_ROWS = ((1, 0, 0, 0), (0, 1, 0, 0), (0, 0, 1, 0), (0, 0, 0, 1))
NOUGHT_ROWS = ((0, 0, 0, 0),) * 4
UNIT = (UNIT_ROWS, 1)
NOUGHT = (NOUGHT_ROWS, 1)
GLASS = (UNIT_ROWS[:3] + ((0, 0, 0, -1),), 1)
WRONG_ROWS = list(STRANGE) + [
    0, (), UNIT_ROWS[:3], UNIT_ROWS + ((0, 0, 0, 0),), list(UNIT_ROWS), UNIT, tuple([list(row) for row in UNIT_ROWS]),
] + with_each_replaced(UNIT_ROWS, (0, None, (), [0, 0, 0, 1], (0, 0, 0), (0, 0, 0, 0, 0), PRICKLY)) + [
    UNIT_ROWS[:at] + (row,) + UNIT_ROWS[at + 1:] for at in range(4) for row in wrong_rows(UNIT_ROWS[at])
]
WRONG_TABLES = list(STRANGE) + [
    0, (), (UNIT_ROWS,), UNIT + (1,), [UNIT_ROWS, 1], UNIT_ROWS, (1, UNIT_ROWS), (UNIT_ROWS, 0), (UNIT_ROWS, -1),
    (NOUGHT_ROWS, 2), (NOUGHT_ROWS, 0), (((2, 0, 0, 0),) * 4, 2), (((3, 6, 9, 0),) * 4, 6), (UNIT_ROWS, True),
    (UNIT_ROWS, None), (UNIT_ROWS, "1"), (UNIT_ROWS, PRICKLY), (UNIT_ROWS, (1,)),
] + [(rows, 1) for rows in WRONG_ROWS]
WRONG_SETTINGS = list(STRANGE) + wrong_rows((1, 2)) + [
    0, (0, 0), (-1, 0), (2, 0), (0, -1), (0, 2), (2, 4), (1, -1), (-1, -1), (1, -2), (1, 1, 1), (-2, 4), (3, 3),
]
WRONG_TURNS = list(STRANGE) + wrong_rows((1, 2, 0, 2)) + [
    0, (0, 0, 0, 0), (2, 0, 0, 0), (-1, 0, 0, 0), (0, -1, 1, 0), (0, 0, -1, 0), (0, 0, 0, -1), (-1, 1, 1, 1),
    (2, 2, 2, 2), (0, 0, 3, 6), (1, 0, 0), (1, 0, 0, 0, 0), (0, 0, -3, 1),
]
ALONG = ("polariser", (1, 0, 0, 1))
SLANT = ("polariser", (0, 1, 0, 1))
UPRIGHT = ("polariser", (-1, 0, 0, 1))
HALF = ("grey", (1, 2))
WRONG_PLATES = list(STRANGE) + [
    0, (), ("polariser",), ("polariser", (1, 0, 0, 1), (1, 0, 0, 1)), ("polariser", (1, 0, 0, 2)), ["glass"],
    ("polariser", [1, 0, 0, 1]), ("polariser", PRICKLY), (PRICKLY, (1, 0, 0, 1)), ("Polariser", (1, 0, 0, 1)),
    (b"polariser", (1, 0, 0, 1)), ("polarizer", (1, 0, 0, 1)), ("polariser ", (1, 0, 0, 1)), ("polariser", None),
    ("partial", (1, 0, 0, 1), (1, 2)), ("partial", (1, 0, 0, 1), (1, 2), (1, 3), (1, 4)), ("partial", (1, 2), (1, 2)),
    ("partial", (1, 0, 0, 2), (1, 2), (1, 3)), ("partial", (1, 0, 0, 1), (3, 2), (1, 3)), ("partial", (1, 2)),
    ("partial", (1, 0, 0, 1), (1, 2), (3, 2)), ("partial", (1, 0, 0, 1), (-1, 2), (1, 2)), ("partial",),
    ("partial", (1, 0, 0, 1), (1, 2), (-1, 2)), ("partial", (1, 0, 0, 1), (2, 4), (1, 2)), ("partial", PRICKLY, 0, 0),
    ("partial", (1, 0, 0, 1), (1, 2), (2, 4)), ("partial", (1, 0, 0, 1), 1, 0), ("turner",), ("turner", (0, 0, 0, 0)),
    ("turner", (-1, 0, 0, 0)), ("turner", (2, 0, 0, 0)), ("turner", (1, 0, 0)), ("turner", (1, 0, 0, 0), (1, 0, 0, 0)),
    ("magnet",), ("magnet", (2, 2)), ("magnet", (-1, 0)), ("magnet", (1, 2), (1, 2)), ("magnet", 1),
    ("grey",), ("grey", (3, 2)), ("grey", (-1, 2)), ("grey", (2, 4)), ("grey", (1, 2), (1, 2)), ("grey", 1),
    ("grey", True), ("grey", PRICKLY), ("dull",), ("dull", (2, 1)), ("dull", (-1, 1)), ("dull", (0, 2)), ("dull", 0),
    ("dull", (1, 2), (1, 2)), ("glass", ()), ("glass", 1), ("glass", None), ("glass", (1, 1)), ("set",),
    ("set", (1, 1)), ("set", ("glass",)), ("set", (1, 1), ("set", (1, 1), ("glass",))), ("set", (1, 1), ()),
    ("set", (2, 2), ("glass",)), ("set", ("glass",), (1, 1)), ("set", (1, 1), ("glass",), ()), ("set", (1, 1), "glass"),
    ("set", (1, 1), ("glass",), ("glass",)), ("set", PRICKLY, ("glass",)), ("set", (1, 1), PRICKLY), ("", (1, 2)),
    ("set", (1, 1), ("grey", (3, 2))), ("set", (1, 1), ("set",)), (("glass",),), ("glass", "glass"), ("mirror", (1, 2)),
]
WRONG_AMPLITUDES = list(STRANGE) + [
    0, (), ((0, 0), (0, 0)), ((1, 0),), ((1, 0), (0, 0), (0, 0)), (1, 0), (1, 0, 0, 0), [(1, 0), (0, 0)],
    ([1, 0], (0, 0)), ((1, 0), [0, 0]), ((1, 0), (0,)), ((1,), (0, 1)), ((1, 0, 0), (0, 1)), ((1, 0), (0, 1, 0)),
    ((True, 0), (0, 1)), ((1, 0), (0, True)), ((1, None), (0, 1)), ((1, 0), (PRICKLY, 1)), (PRICKLY, (0, 1)), (1j, 1),
    ((1, 0), "ab"),
]
EYE = (((1, 0), (0, 0)), ((0, 0), (1, 0)))
WRONG_MATRICES = list(STRANGE) + [
    0, (), EYE[:1], EYE + EYE[:1], list(EYE), ([(1, 0), (0, 0)], EYE[1]), (EYE[0], [(0, 0), (1, 0)]),
    (EYE[0], ((0, 0),)), (((1, 0),), EYE[1]), (EYE[0], ((0, 0), (1, 0), (0, 0))), (EYE[0], ((0, 0), (1,))),
    (EYE[0], ((0, 0), (1, 0, 0))), (EYE[0], ((0, 0), [1, 0])), (EYE[0], ((0, 0), (True, 0))), (EYE[0], (0, 1)),
    (((1, 0), (None, 0)), EYE[1]), (((1, PRICKLY), (0, 0)), EYE[1]), ((1, 0), (0, 1)), (EYE[0], PRICKLY), (EYE, EYE),
    ((1, 0), (0, 0), (0, 0), (1, 0)),
]
WRONG_GAUSSIAN_ROWS = list(STRANGE) + [
    0, (), ((0, 0),) * 3, ((0, 0),) * 5, [(0, 0)] * 4, (0, 0, 0, 0), ((0, 0), (0, 0), (0, 0), (0,)),
    ((0, 0), (0, 0), (0, 0), (0, 0, 0)), ((0, 0), (0, 0), (0, 0), [0, 0]), ((0, True), (0, 0), (0, 0), (0, 0)),
    ((0, 0), (0, None), (0, 0), (0, 0)), ((0, 0), (0, 0), PRICKLY, (0, 0)), ((0, 0), (0, 0), (PRICKLY, 0), (0, 0)), EYE,
    (1j, 0, 0, 0),
]
TOO_MANY = "ninth"


def wrong_lists(right, wrong, most):
    """Pairs of a value that is no tuple of at most so many right things, and the index that is told of it."""
    pairs = [(value, None) for value in NO_TUPLES] + [([right], None), ([], None)]
    for thing in wrong + [PRICKLY, [right]]:
        pairs += [((thing,), 0), ((right, thing), 1), ((right, right, thing, thing, right), 2)]
        pairs += [((right,) * (most - 1) + (thing,), most - 1), ((thing,) * (most + 3), 0)]
        pairs += [((right,) * most + (thing,), most), ((right, thing) + (right,) * most, 1)]
    return pairs + [((right,) * (most + 1), most), ((right,) * (most + 5), most)]


def reduced(numbers):
    """Whole numbers without their common divisor."""
    divisor = 0
    for number in numbers:
        divisor = gcd(divisor, number)
    return tuple([number // (divisor or 1) for number in numbers])


class Draw:
    """Values drawn by chance, the same in each run."""

    def __init__(self, seed):
        self.chance = random.Random(seed)

    def number(self, most):
        return self.chance.randint(-most, most)

    def row(self, many, most):
        return tuple([self.number(most) for _ in range(many)])

    def coprime(self, numbers):
        """Whether whole numbers have no common divisor."""
        return gcd(*numbers) == 1

    def fraction(self, most=9):
        return reduced((self.number(most), self.chance.randint(1, most)))

    def share(self, most=6):
        q = self.chance.randint(1, most)
        return reduced((self.chance.randint(0, q), q))

    def kind(self, most=5):
        x, y, w = self.number(most), self.number(most), self.chance.randint(1, most)
        return reduced((2 * x * w, 2 * y * w, w * w - x * x - y * y, w * w + x * x + y * y))

    def pure(self, most=5):
        q, u, v, n = self.kind(most)
        part = self.chance.randint(1, most)
        return reduced((part * n, part * q, part * u, part * v, self.chance.randint(1, 4 * most)))

    def light(self, most=5):
        """A light of any sort: dark, plain, pure or in between."""
        q, u, v, n = self.kind(most)
        own, rest = self.chance.randint(0, most), self.chance.randint(0, most)
        return reduced((own * n + rest, own * q, own * u, own * v, self.chance.randint(1, 4 * most)))

    def setting(self, most=5):
        a, b = self.number(most), self.chance.randint(0, most)
        return reduced((a, b)) if b > 0 else (1, 0)

    def turn(self, most=4):
        row = (0, 0, 0, 0)
        while row == (0, 0, 0, 0):
            row = reduced(self.row(4, most))
        first = [number for number in row if number != 0][0]
        return tuple([number if first > 0 else -number for number in row])

    def look(self, most=5):
        """A look of any sort: one that reads all alike, a pure one, or in between."""
        row = (0, 0, 0, 0)
        while row == (0, 0, 0, 0):
            row = reduced(self.light(most)[:4])
        return row

    def reading(self, most=5):
        word = self.chance.choice(("level", "ratio", "more"))
        looks = (self.look(most),) if word == "level" else (self.look(most), self.look(most))
        return (word, *looks, self.fraction(most))

    def table(self, most=4):
        numbers = reduced(self.row(16, most) + (self.chance.randint(1, most),))
        return (tuple([numbers[4 * at:4 * at + 4] for at in range(4)]), numbers[16])

    def matrix(self, most=3):
        return tuple([tuple([self.row(2, most) for _ in range(2)]) for _ in range(2)])

    def amplitude(self, most=4):
        pair = ((0, 0), (0, 0))
        while pair == ((0, 0), (0, 0)):
            pair = (self.row(2, most), self.row(2, most))
        return pair

    def bare_plate(self):
        word = self.chance.choice(("polariser", "partial", "turner", "magnet", "grey", "dull", "glass"))
        parts = {
            "polariser": (self.kind(),), "partial": (self.kind(), self.share(), self.share()),
            "turner": (self.turn(),), "magnet": (self.setting(),), "grey": (self.share(),), "dull": (self.share(),),
            "glass": (),
        }
        return (word,) + parts[word]

    def plate(self):
        plate = self.bare_plate()
        return ("set", self.setting(), plate) if self.chance.randint(0, 2) == 0 else plate

    def stack(self, most=8):
        return tuple([self.plate() for _ in range(self.chance.randint(0, most))])

LAMP = (2, 1, 0, 1, 3)
WRONG_PAIRS = list(STRANGE) + [
    0, (), (LAMP,), (LAMP, LAMP, LAMP), [LAMP, LAMP], (LAMP, None), (None, LAMP), (LAMP, list(LAMP)), LAMP,
    (LAMP, PRICKLY), (LAMP, (2, 0, 0, 0, 2)), ((1, 2, 0, 0, 1), LAMP), (LAMP, (True, 0, 0, 0, 1)), ((LAMP, LAMP),),
]
WRONG_COURSES = list(STRANGE) + wrong_rows((1, 0, -1, 2, 0, 3)) + [
    0, (1, 0, 1, 0, 0, 0), (1, 0, 1, 0, 0, -1), (2, 0, 2, 0, 0, 2), (0, 0, 0, 0, 0, 2), (0, 0, 0, 0, 0, 0),
    (1, 0, 1, 0, 0), (1, 0, 1, 0, 0, 1, 1), (0, 0, 0, 0, 0, -1), (BIG, 0, 0, 0, 0, BIG),
]
WRONG_RIGS = list(STRANGE) + [
    0, (), ((), ALONG), ((), ALONG, (), ()), [(), ALONG, ()], (ALONG, ALONG, ALONG), ((), (ALONG,), ()), ((), (), ()),
    ([], ALONG, ()), ((), ALONG, []), ((), ALONG, None), (None, ALONG, ()), ((), None, ()), ((), PRICKLY, ()),
    ((PRICKLY,), ALONG, ()), ((), ALONG, (PRICKLY,)), ((("grey", (3, 2)),), ALONG, ()), ((), ("grey", (3, 2)), ()),
    ((), ALONG, (("grey", (2, 4)),)), ((ALONG,) * 8, ALONG, ()), ((), ALONG, (ALONG,) * 8), ((ALONG,) * 9, ALONG, ()),
    ((ALONG,) * 4, ALONG, (ALONG,) * 4), ((ALONG,) * 7, ALONG, (ALONG,)), (ALONG, (), ()), ((), list(ALONG), ()),
    ((), ("set", (0, 1), ("set", (0, 1), ALONG)), ()), (PRICKLY, PRICKLY, PRICKLY), ((ALONG,), (), (ALONG,)),
]
LOOK = (2, 1, 0, 1)
LEVEL = ("level", LOOK, (1, 2))
WRONG_READINGS = list(STRANGE) + [
    0, (), ("level",), ("level", LOOK), ("level", LOOK, (1, 2), (1, 2)), ["level", LOOK, (1, 2)],
    ("Level", LOOK, (1, 2)),
    ("level ", LOOK, (1, 2)), (b"level", LOOK, (1, 2)), (PRICKLY, LOOK, (1, 2)), ("level", PRICKLY, (1, 2)),
    ("level", LOOK, PRICKLY), ("level", LOOK, None), ("level", LOOK, 1), ("level", LOOK, True), ("level", LOOK, (2, 4)),
    ("level", LOOK, [1, 2]), ("level", LOOK, (1, 0)), ("level", LOOK, LOOK), ("level", (2, 2, 0, 2), (1, 2)),
    ("level", (0, 0, 0, 0), (0, 1)), ("level", (1, 1, 1, 0), (1, 2)), ("level", (1, 0, 0), (1, 2)),
    ("level", (1, 2), LOOK),
    ("level", list(LOOK), (1, 2)), ("level", (True, 0, 0, 0), (1, 2)), ("level", (-1, 0, 0, 0), (1, 2)),
    ("level", LOOK, LOOK, (1, 2)), ("ratio", LOOK, (1, 2)), ("ratio", LOOK, LOOK), ("ratio", LOOK, LOOK, LOOK),
    ("ratio", LOOK, LOOK, (2, 4)), ("ratio", LOOK, (2, 0, 0, 0), (1, 2)), ("ratio", (2, 0, 0, 0), LOOK, (1, 2)),
    ("ratio", LOOK, LOOK, (1, 2), (1, 2)), ("ratio", LOOK, None, (1, 2)), ("ratio", None, LOOK, (1, 2)), ("ratio",),
    ["ratio", LOOK, LOOK, (1, 2)], ("ratio", LOOK, LOOK, None), ("ratio", LOOK, PRICKLY, (1, 2)),
    ("ratio", LOOK, LOOK, 0),
    ("more", LOOK, (1, 2)), ("more", LOOK, LOOK), ("more", LOOK, LOOK, (2, 4)), ("more", LOOK, (1, 1, 1, 0), (1, 2)),
    ("more", (1, 1, 1, 0), LOOK, (1, 2)), ("more", LOOK, LOOK, (1, 2), ()), ("more", LOOK, LOOK, True), ("more",),
    ("less", LOOK, LOOK, (1, 2)), ("more", LOOK, LOOK, [1, 2]), ("", LOOK, (1, 2)), (LOOK, (1, 2)),
    (("level", LOOK, (1, 2)),),
    ("more", list(LOOK), LOOK, (1, 2)), ("more", LOOK, list(LOOK), (1, 2)), (LOOK, LOOK, LOOK, (1, 2)),
    (1, LOOK, (1, 2)),
]
