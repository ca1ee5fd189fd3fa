"""What the tests share: wrong values, and a case that checks arguments one by one."""

import inspect
import signal
import unittest


class Prickly:
    """A value that cannot be compared, measured, tested, hashed or gone through."""

    def _refuse(self, *rest):
        raise RuntimeError("this value is not to be touched")

    __eq__ = __ne__ = __lt__ = __le__ = __gt__ = __ge__ = _refuse
    __len__ = __iter__ = __bool__ = __hash__ = __getitem__ = __contains__ = _refuse
    __int__ = __index__ = __add__ = __radd__ = __mul__ = __neg__ = __abs__ = _refuse


PRICKLY = Prickly()

# None of these is right in the place of any argument, but for () where a stack or some lights are wanted.
STRANGE = (
    None, True, False, "", "text", "glass", b"", b"bytes", [], {}, set(), frozenset(), object(), int, len, PRICKLY,
    [0, 1], [1, 0, 0, 0, 1], {0: 1}, {"given": 1}, {1, 2}, range(2), (None,), ((),), ((((((((((),),),),),),),),),),
    (True,), (PRICKLY,), (PRICKLY, PRICKLY), (None, None), ("0", "1"), ("glass", "glass"), ([], []),
)

# Neither are these in the place of a whole number.
NO_WHOLES = STRANGE + ((), (0,), (1, 1), "1", b"1", [1], 1j)

# Neither are these in the place of a tuple.
NO_TUPLES = tuple([value for value in STRANGE if type(value) is not tuple]) + (0, 1, -1, 10 ** 40, 1j)


def with_each_replaced(row, others):
    """The row with each part replaced by each of the others, one at a time."""
    return [row[:at] + (other,) + row[at + 1:] for at in range(len(row)) for other in others]


def wrong_rows(row):
    """Values that are no such row of whole numbers: too long, too short, a list, strange parts."""
    strange = (None, True, "1", (1,), [], PRICKLY, 1j)
    return [row + (0,), row + (1,), row[:-1], row[1:], (), list(row), (row,)] + with_each_replaced(row, strange)


def is_plain(value):
    """Whether a result is of whole numbers, True, False, None and strings, in tuples alone."""
    if type(value) is tuple:
        return all(is_plain(part) for part in value)
    return value is None or type(value) in (int, bool, str)


class Argument:
    """An argument of a function: its name, a right value, wrong ones, and the error that is raised for these."""

    def __init__(self, name, right, error, wrong=(), indexed=()):
        self.name = name
        self.right = right
        self.error = error
        self.cases = [(value, "given", value) for value in wrong] + [(value, "index", at) for value, at in indexed]


class Case(unittest.TestCase):
    """A test case that checks errors to the letter, and that fails when it does not come to an end."""

    LONGEST = 120

    def setUp(self):
        signal.signal(signal.SIGALRM, self.give_up)
        signal.alarm(self.LONGEST)

    def tearDown(self):
        signal.alarm(0)

    def give_up(self, number, frame):
        """Fail a test that has run for many times as long as it should."""
        # A failed subtest does not end its test, so the next one must be given up, too.
        signal.alarm(5)
        self.fail("this test does not come to an end")

    def refuses(self, error, attribute, worth, call):
        """Check that a call raises just this error, that it keeps this worth, and nothing else."""
        with self.assertRaises(error) as caught:
            call()
        self.assertIs(type(caught.exception), error)
        if attribute is None:
            self.assertEqual(vars(caught.exception), {})
            return
        self.assertEqual(list(vars(caught.exception)), [attribute])
        kept = getattr(caught.exception, attribute)
        if attribute == "given":
            self.assertIs(kept, worth)
        else:
            self.assertTrue(kept is worth if worth is None else type(kept) is int and kept == worth, (kept, worth))

    def gives(self, worth, function, *arguments):
        """Check what a call gives, by position and by name, and that only plain values come out."""
        told = function(*arguments)
        self.assertEqual(told, worth)
        self.assertIs(type(told), type(worth))
        self.assertTrue(is_plain(told), told)
        named = dict(zip(inspect.signature(function).parameters, arguments))
        self.assertEqual(function(**named), worth)

    def checks_arguments(self, function, *arguments):
        """Check each argument's errors, and that they are raised in the order of the signature."""
        names = [argument.name for argument in arguments]
        self.assertEqual(list(inspect.signature(function).parameters), names)
        right = [argument.right for argument in arguments]
        told = function(*right)
        self.assertTrue(is_plain(told), told)
        self.assertEqual(function(**dict(zip(names, right))), told)
        for at, argument in enumerate(arguments):
            self.assertGreater(len(argument.cases), 0)
            later = [other.cases[0][0] for other in arguments[at + 1:]]
            for number, (value, attribute, worth) in enumerate(argument.cases):
                with self.subTest(function=function.__name__, argument=argument.name, number=number):
                    alone = right[:at] + [value] + right[at + 1:]
                    first = right[:at] + [value] + later
                    self.refuses(argument.error, attribute, worth, lambda: function(*alone))
                    self.refuses(argument.error, attribute, worth, lambda: function(**dict(zip(names, alone))))
                    self.refuses(argument.error, attribute, worth, lambda: function(*first))
