"""Platelights/texts.py: plates as texts."""

import unittest

from platelights.errors import InvalidPlate
from platelights.texts import plate_in, plate_text
from tests.cases import STRANGE, Argument, Case
from tests.values import BIG, WRONG_PLATES, Draw

TEXTS = (
    (("polariser", (1, 0, 0, 1)), "polariser 1 0 0 1"), (("polariser", (-2, -1, 2, 3)), "polariser -2 -1 2 3"),
    (("partial", (1, 0, 0, 1), (1, 1), (1, 2)), "partial 1 0 0 1 1/1 1/2"),
    (("partial", (0, 0, -1, 1), (0, 1), (7, 9)), "partial 0 0 -1 1 0/1 7/9"),
    (("turner", (1, 0, 0, 0)), "turner 1 0 0 0"), (("turner", (0, 1, -2, 3)), "turner 0 1 -2 3"),
    (("magnet", (1, 0)), "magnet 1 0"),
    (("magnet", (-3, 2)), "magnet -3 2"), (("grey", (0, 1)), "grey 0/1"), (("grey", (1, 1)), "grey 1/1"),
    (("dull", (3, 4)), "dull 3/4"),
    (("glass",), "glass"), (("set", (1, 1), ("glass",)), "set 1 1 glass"),
    (("set", (-1, 2), ("grey", (1, 2))), "set -1 2 grey 1/2"),
    (("set", (1, 0), ("partial", (0, 1, 0, 1), (1, 2), (1, 3))), "set 1 0 partial 0 1 0 1 1/2 1/3"),
    (("set", (0, 1), ("magnet", (1, 1))), "set 0 1 magnet 1 1"),
    (("set", (1, 1), ("polariser", (0, 0, -1, 1))), "set 1 1 polariser 0 0 -1 1"),
    (("grey", (BIG, BIG + 1)), f"grey {BIG}/{BIG + 1}"), (("magnet", (-BIG, 1)), f"magnet -{BIG} 1"),
)
BENT = (
    "", " ", "glass ", " glass", "Glass", "GLASS", "glas", "glasss", "glass 1", "glass glass", "glass/", "mirror",
    "grey", "grey ", "grey 1", "grey 1/", "grey /2",
    "grey 2/4", "grey 3/2", "grey -1/2", "grey 1/-2", "grey -1/-2", "grey 1/0", "grey 0/2", "grey 01/2", "grey 1/02",
    "grey +1/2", "grey 1/2/3", "grey 1 / 2",
    "grey 1 /2", "grey 1 2", "grey  1/2", "grey 1/2 ", "grey 1/2 1/2", "grey -0/1", "grey 1_0/11", "grey 1.0/2",
    "grey 0x1/2", "grey 1//2", "grey a/b", "grey 1/2\n",
    "grey\t1/2", "dull", "dull 2/1", "dull 1", "polariser", "polariser 1 0 0", "polariser 1 0 0 1 1",
    "polariser 1 0 0 2", "polariser 2 0 0 2", "polariser 1 1 0 1",
    "polariser +1 0 0 1", "polariser 01 0 0 1", "polariser 1 -0 0 1", "polariser 1 0 0 1/1", "polariser (1, 0, 0, 1)",
    "polariser 1, 0, 0, 1", "polariser 1  0 0 1",
    "partial 1 0 0 1", "partial 1 0 0 1 1/1", "partial 1 0 0 1 1/1 1/2 1/3", "partial 1/1 1/2 1 0 0 1",
    "partial 1 0 0 1 1 1", "partial 1 0 0 1 1/1 2/1",
    "partial 1 0 0 1 1/1 2/4", "turner", "turner 0 0 0 0", "turner -1 0 0 0", "turner 2 0 0 0", "turner 1 0 0",
    "turner 1 0 0 0 0", "magnet", "magnet 1", "magnet 2 2",
    "magnet 1 -1", "magnet -1 0", "magnet 0 0", "magnet 1/1", "set", "set 1", "set 1 1", "set 1 1 ", "set glass",
    "set 1 glass", "set 1 1 1 glass", "set 2 2 glass",
    "set 1 1 set 1 1 glass", "set 1 1 grey 2/4", "set 1 1 glass glass", "set 1 1  glass", "set 1/1 glass",
    "set -1 0 glass", "set glass 1 1", "set 1 1 mirror",
    "set 01 1 glass", "glass set 1 1", "polariser glass", "('glass',)", "none", "light", "grey \u0661/\u0662",
    "grey \u00b9/\u00b2", "grey 1/2\x00", "\u00e9",
)


class TextsTest(Case):

    def test_examples(self):
        self.gives("partial 1 0 0 1 1/1 1/2", plate_text, ("partial", (1, 0, 0, 1), (1, 1), (1, 2)))
        self.gives("glass", plate_text, ("glass",))
        self.gives(("set", (1, 1), ("polariser", (0, 0, -1, 1))), plate_in, "set 1 1 polariser 0 0 -1 1")
        self.gives(None, plate_in, "grey 2/4")
        self.gives(None, plate_in, "grey  1/2")

    def test_texts_of_each_sort(self):
        for plate, text in TEXTS:
            self.gives(text, plate_text, plate)
            self.gives(plate, plate_in, text)

    def test_texts_there_and_back(self):
        draw, words = Draw(1), {}
        for _ in range(300):
            plate = draw.plate()
            text = plate_text(plate)
            self.assertEqual(plate_in(text), plate)
            words[text.split(" ")[0]] = plate
        self.assertEqual(len(words), 8)

    def test_bent_texts(self):
        for text in BENT:
            with self.subTest(text=text):
                self.gives(None, plate_in, text)

    def test_texts_with_one_sign_more_or_less(self):
        # What is told of a text is the one plate that has just this text.
        seen = {True: 0, False: 0}
        for _, text in TEXTS[:-2]:
            for at in range(len(text)):
                for part in ("", "0", "1", "-", " ", "/", "a", "+"):
                    for other in (text[:at] + part + text[at:], text[:at] + part + text[at + 1:]):
                        plate = plate_in(other)
                        seen[plate is None] += 1
                        self.assertTrue(plate is None or plate_text(plate) == other, other)
        self.assertGreater(min(seen.values()), 500)

    def test_no_texts(self):
        for value in STRANGE + (0, 1, ("glass",), b"glass", ["glass"], ("grey", (1, 2)), 1j):
            if type(value) is not str or value != "glass":
                self.assertIsNone(plate_in(value))
                self.assertIsNone(plate_in(text=value))

    def test_numbers_with_many_figures(self):
        huge = 10 ** 3990
        for plate in (("grey", (huge - 1, huge)), ("set", (huge, 1), ("turner", (1, huge, -huge, 7)))):
            self.assertEqual(plate_in(plate_text(plate)), plate)

    def test_texts_of_far_too_many_figures_are_no_plates(self):
        for figures in (4001, 5000, 20000):
            self.gives(None, plate_in, "grey 1/" + "1" * figures)

    def test_wrong_arguments(self):
        self.checks_arguments(plate_text, Argument("plate", ("glass",), InvalidPlate, WRONG_PLATES))


if __name__ == "__main__":
    unittest.main()
