"""Point [4] and platelights/errors.py: the classes of errors."""

import unittest

from platelights import errors
from tests.cases import PRICKLY

GIVEN = """InvalidNumber InvalidNumbers InvalidFraction InvalidSurd InvalidLight InvalidKind InvalidLook InvalidTable
InvalidRows InvalidPlate InvalidTurn InvalidSetting InvalidAmplitude InvalidMatrix InvalidRow InvalidReading
InvalidIndex InvalidRig InvalidCourse InvalidName InvalidWish InvalidPhrase NoLight NotABench UnknownName NameTaken
InUse""".split()
INDEX = """InvalidStack InvalidImages InvalidLights InvalidReadings InvalidTables InvalidPairs InvalidKinds InvalidParts
InvalidSamples InvalidNames Broken""".split()
BARE = "Dark NoLightFits NoTurnFits NotTold NotFading NothingToUndo".split()


class ErrorsTest(unittest.TestCase):

    def test_the_base_stands_under_value_error_alone(self):
        self.assertEqual(errors.LightError.__bases__, (ValueError,))
        self.assertEqual(vars(errors.LightError()), {})

    def test_all_classes_are_there_and_no_others(self):
        found = [name for name, value in vars(errors).items() if isinstance(value, type)]
        self.assertEqual(sorted(found), sorted(["LightError"] + GIVEN + INDEX + BARE))

    def test_each_class_stands_under_the_base_alone(self):
        for name in GIVEN + INDEX + BARE:
            with self.subTest(name=name):
                self.assertEqual(getattr(errors, name).__bases__, (errors.LightError,))
                self.assertEqual(getattr(errors, name).__module__, "platelights.errors")

    def test_each_error_keeps_what_it_is_made_with(self):
        for names, attribute in ((GIVEN, "given"), (INDEX, "index")):
            for name in names:
                for value in (0, None, True, "text", [1], ((1,), 2), PRICKLY, name):
                    with self.subTest(name=name):
                        made = getattr(errors, name)
                        self.assertIs(getattr(made(value), attribute), value)
                        self.assertIs(getattr(made(**{attribute: value}), attribute), value)
                        self.assertEqual(list(vars(made(value))), [attribute])

    def test_each_error_wants_its_attribute(self):
        for name in GIVEN + INDEX:
            with self.subTest(name=name), self.assertRaises(TypeError):
                getattr(errors, name)()

    def test_errors_without_attributes(self):
        for name in BARE:
            with self.subTest(name=name):
                self.assertEqual(vars(getattr(errors, name)()), {})

    def test_errors_can_be_raised_and_caught_by_the_base(self):
        for name in GIVEN + INDEX:
            with self.subTest(name=name), self.assertRaises(errors.LightError):
                raise getattr(errors, name)(name)
        for name in BARE:
            with self.subTest(name=name), self.assertRaises(errors.LightError):
                raise getattr(errors, name)()


if __name__ == "__main__":
    unittest.main()
