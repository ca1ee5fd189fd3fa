"""Platelights/consoles.py: benches that are changed and asked by lines of text."""

import inspect
import unittest

from platelights.benches import Bench
from platelights.consoles import Console
from platelights.errors import Broken, InUse, InvalidNames, InvalidPhrase, NameTaken, NotABench, NothingToUndo, UnknownName
from platelights.texts import plate_text
from tests.cases import PRICKLY, STRANGE, Case
from tests.reckon import dot, led, numbers_of, pair_of, rows_of_stack
from tests.stands import filled, story_of, whole_of
from tests.values import ALONG, BIG, HALF, SLANT, Draw

PLAIN, EAST = (1, 0, 0, 0, 1), (1, 1, 0, 0, 1)
BENT = (
    "", " ", "light", "light lamp", "light lamp:", "light lamp: ", "light lamp: 1 0 0 0", "light lamp: 1 0 0 0 1 1",
    "light lamp:1 0 0 0 1", "light lamp : 1 0 0 0 1",
    "light lamp 1 0 0 0 1", "light  lamp: 1 0 0 0 1", "light lamp:  1 0 0 0 1", "light lamp: 1  0 0 0 1",
    "light lamp: 1 0 0 0 1 ", " light lamp: 1 0 0 0 1",
    "Light lamp: 1 0 0 0 1", "light Lamp: 1 0 0 0 1", "light lamp1: 1 0 0 0 1", "light abcdefghijklm: 1 0 0 0 1",
    "light : 1 0 0 0 1", "light lamp:: 1 0 0 0 1",
    "light lamp: 2 0 0 0 2", "light lamp: 1 2 0 0 1", "light lamp: 1 0 0 0 0", "light lamp: 1 0 0 0 -1",
    "light lamp: +1 0 0 0 1", "light lamp: 01 0 0 0 1",
    "light lamp: 1 -0 0 0 1", "light lamp: 1 0 0 0 1/1", "light lamp: 1, 0, 0, 0, 1", "light lamp: (1, 0, 0, 0, 1)",
    "light lamp: a b c d e", "light lamp: 1_0 0 0 0 1",
    "light lamp: 1 0 0 0 1\n", "light lamp: 1\t0 0 0 1", "lights lamp: 1 0 0 0 1", "put lamp: 1 0 0 0 1",
    "light lamp sun: 1 0 0 0 1", "light lamp: polariser 1 0 0 1",
    "plate", "plate net", "plate net:", "plate net: ", "plate net: grey", "plate net: grey 2/4", "plate net: grey 3/2",
    "plate net:  grey 1/2", "plate net: grey 1/2 ",
    "plate net: grey  1/2", "plate net grey 1/2", "plate Net: grey 1/2", "plate net: 1 0 0 0 1",
    "plate net: set 1 1 set 1 1 glass", "plate net: none", "plate net:glass",
    "plate : glass", "plate net: glass glass", "plate grey 1/2", "plate net: Grey 1/2",
    "beam", "beam way", "beam way:", "beam way: ", "beam way: Lamp", "beam way: lamp ", "beam way: lamp  net",
    "beam way: lamp net ", "beam way: lamp Net", "beam way: lamp net1",
    "beam way lamp", "beam Way: lamp", "beam way:lamp", "beam way: lamp, net", "beam way: lamp: net", "beam : lamp",
    "beam way: lamp abcdefghijklm", "beam way: 1 0 0 0 1",
    "drop", "drop ", "drop Lamp", "drop lamp ", "drop lamp net", "drop  lamp", "drop lamp:", "drop 1", "Drop lamp",
    "drop abcdefghijklm", "undo ", " undo", "undo lamp", "Undo",
    "undo undo", "show", "show ", "show Lamp", "show lamp net", "show lamp:", "show lamp ", "show  lamp", "out", "out ",
    "out Way", "out way way", "out way:", "out way 1", "out 1",
    "level", "level way", "level way:", "level way: 1 0 0", "level way: 1 0 0 0 1", "level way: 2 0 0 0",
    "level way: 0 0 0 0", "level way: 1 1 1 0", "level way: -1 0 0 0",
    "level way 1 0 0 0", "level Way: 1 0 0 0", "level way: 1  0 0 0", "level way: 1 0 0 0 ", "level way: 1.0 0 0 0",
    "level : 1 0 0 0", "level way: +1 0 0 0", "names ", " names",
    "names names", "Names", "name", "none", "done", "help", "light lamp: 1 0 0 0 1; undo", "wish fading way", "lamp",
    "lamp: 1 0 0 0 1",
    "put way: lamp", "beams way: lamp net", "names way: lamp", "undo way: lamp", "drop way: lamp", ": lamp",
    " way: lamp",
)


class ConsolesTest(Case):

    def test_examples(self):
        console = Console(Bench())
        lines = (
            "light lamp: 1 0 0 0 1", "plate net: grey 1/2", "beam way: lamp net net", "out way", "level way: 1 1 0 0",
            "show way", "names",
        )
        told = [console.say(line) for line in lines]
        self.assertEqual(told, ["done", "done", "done", "1 0 0 0 4", "1/4", "lamp net net", "lamp net way"])
        self.refuses(InvalidPhrase, "given", "plate net: grey 3/2", lambda: console.say("plate net: grey 3/2"))

    def test_each_form(self):
        bench = Bench()
        console = Console(bench=bench)
        for line, told in (
            ("names", "none"), ("light lamp: 1 0 0 0 1", "done"), ("show lamp", "1 0 0 0 1"), ("names", "lamp"),
            ("light a: 3 -1 0 2 7", "done"), ("show a", "3 -1 0 2 7"),
            ("plate abcdefghijkl: set -1 2 partial 0 0 -1 1 1/2 0/1", "done"),
            ("show abcdefghijkl", "set -1 2 partial 0 0 -1 1 1/2 0/1"), ("plate last: polariser 1 0 0 1", "done"),
            ("beam way: lamp", "done"), ("show way", "lamp"), ("out way", "1 0 0 0 1"), ("level way: 2 1 0 0", "2/1"),
            ("beam way: lamp last", "done"), ("out way", "1 1 0 0 2"),
            ("level way: 1 -1 0 0", "0/1"), ("level way: 2 1 0 0", "3/2"),
            ("beam path: a last last last last last last last last", "done"), ("out path", "1 1 0 0 7"),
            ("show path", "a last last last last last last last last"), ("names", "a abcdefghijkl lamp last path way"),
            ("light lamp: 0 0 0 0 1", "done"), ("out way", "0 0 0 0 1"),
            ("undo", "done"), ("out way", "1 1 0 0 2"), ("drop way", "done"), ("drop lamp", "done"),
            ("names", "a abcdefghijkl last path"), ("undo", "done"), ("undo", "done"),
            ("names", "a abcdefghijkl lamp last path way"), ("plate last: glass", "done"), ("show last", "glass"),
            ("out path", "3 -1 0 2 7"), ("light undo: 1 0 0 0 1", "done"),
            ("show undo", "1 0 0 0 1"), ("drop undo", "done"), ("light names: 1 0 0 0 1", "done"),
            ("beam drop: names", "done"), ("drop drop", "done"), ("drop names", "done"),
        ):
            self.assertEqual(console.say(line), told, line)
            self.assertIs(type(told), str)
            if told != "done":
                self.assertEqual(console.say(line=line), told)
        self.assertEqual(
            (bench.lights, bench.plates, bench.beams), (("a", "lamp"), ("abcdefghijkl", "last"), ("path", "way")),
        )
        self.assertEqual(bench.thing("way"), ("lamp", ("last",)))
        self.assertEqual(bench.thing("abcdefghijkl"), ("set", (-1, 2), ("partial", (0, 0, -1, 1), (1, 2), (0, 1))))

    def test_lines_of_no_form(self):
        bench = filled()
        console, before = Console(bench), story_of(bench)
        for line in BENT:
            with self.subTest(line=line):
                self.refuses(InvalidPhrase, "given", line, lambda: console.say(line))
        for line in STRANGE + (0, 1, b"names", b"undo", ["names"], ("names",), PRICKLY):
            self.refuses(InvalidPhrase, "given", line, lambda: console.say(line))
        self.assertEqual(story_of(bench), before)

    def test_errors_of_what_is_called(self):
        bench = filled()
        bench.wish(("at most", "beam", (1, 0, 0, 0), (1, 2)))
        console, before = Console(bench), story_of(bench)
        for line, error, attribute, worth in (
            ("light first: 1 0 0 0 1", NameTaken, "given", "first"), ("light lamp: 2 0 0 0 1", Broken, "index", 0),
            ("plate lamp: glass", NameTaken, "given", "lamp"),
            ("plate first: glass", Broken, "index", 0), ("beam way: first", UnknownName, "given", "first"),
            ("beam way: new", UnknownName, "given", "new"),
            ("beam way: lamp lamp", InvalidNames, "index", 0), ("beam way: lamp net new net", InvalidNames, "index", 1),
            ("beam way: lamp" + " net" * 9, InvalidNames, "index", 8),
            ("beam net: lamp", NameTaken, "given", "net"), ("beam beam: sun", Broken, "index", 0),
            ("drop new", UnknownName, "given", "new"), ("drop lamp", InUse, "given", "beam"),
            ("drop beam", Broken, "index", 0), ("show new", UnknownName, "given", "new"),
            ("out new", UnknownName, "given", "new"), ("out lamp", UnknownName, "given", "lamp"),
            ("level lamp: 1 0 0 0", UnknownName, "given", "lamp"), ("level new: 1 0 0 0", UnknownName, "given", "new"),
            ("beam way: lamp net lamp Net", InvalidPhrase, "given", None),
        ):
            with self.subTest(line=line):
                with self.assertRaises(error) as caught:
                    console.say(line)
                self.assertEqual(vars(caught.exception), {attribute: line if worth is None else worth})
        self.assertEqual(story_of(bench), before)
        empty = Console(Bench())
        self.refuses(NothingToUndo, None, None, lambda: empty.say("undo"))

    def test_two_consoles_of_one_bench(self):
        bench = Bench()
        one, two = Console(bench), Console(bench)
        self.assertTrue(one == one and one != two and not one == two and not one != one and one != bench)
        self.assertEqual(
            (one.say("light lamp: 1 0 0 0 1"), two.say("names"), two.say("show lamp")), ("done", "lamp", "1 0 0 0 1"),
        )
        self.assertEqual(
            (two.say("beam way: lamp"), bench.put_light("lamp", EAST), one.say("out way")), ("done", None, "1 1 0 0 1"),
        )
        self.assertEqual(
            (two.say("undo"), one.say("undo"), one.say("undo"), two.say("names")), ("done", "done", "done", "none"),
        )
        self.refuses(NothingToUndo, None, None, lambda: two.say("undo"))
        for value in STRANGE:
            if value is not PRICKLY:
                self.assertFalse(one == value)
        self.assertTrue(one)

    def test_what_consoles_tell_by_chance(self):
        draw, bench = Draw(1), Bench()
        console = Console(bench)
        for _ in range(60):
            light, stack, look = draw.light(), draw.stack(4), draw.look()
            self.assertEqual(console.say("light lamp: " + " ".join([str(number) for number in light])), "done")
            for at, plate in enumerate(stack):
                self.assertEqual(console.say("plate " + "abcd"[at] + ": " + plate_text(plate)), "done")
                self.assertEqual(console.say("show " + "abcd"[at]), plate_text(plate))
            names = " ".join(["lamp", *"abcd"[:len(stack)]])
            self.assertEqual((console.say("beam way: " + names), console.say("show way")), ("done", names))
            self.assertEqual((bench.stack("way"), bench.thing("lamp")), (stack, light))
            numbers = led(rows_of_stack(stack), numbers_of(light))
            told = tuple([int(word) for word in console.say("out way").split(" ")])
            self.assertEqual((numbers_of(told), told), (numbers, bench.out("way")))
            level = pair_of(dot(look, numbers))
            line = "level way: " + " ".join([str(number) for number in look])
            self.assertEqual(console.say(line), f"{level[0]}/{level[1]}")

    def test_numbers_with_many_figures(self):
        console = Console(Bench())
        huge = BIG ** 6
        for line in (f"light lamp: {huge} 1 0 {1 - huge} {BIG}", f"plate net: grey {huge - 1}/{huge}", "beam way: lamp net"):
            self.assertEqual(console.say(line), "done")
        self.assertEqual(console.say("show lamp"), f"{huge} 1 0 {1 - huge} {BIG}")
        self.assertEqual(len(console.say("level way: 1 0 0 0").split("/")), 2)

    def test_wrong_benches(self):
        self.assertEqual(list(inspect.signature(Console).parameters), ["bench"])
        self.assertEqual(list(inspect.signature(Console(Bench()).say).parameters), ["line"])
        self.assertIn("say", vars(Console))
        for value in STRANGE + (0, Bench, Console, Console(Bench()), (Bench(),), [Bench()], whole_of(Bench()), ALONG, HALF, SLANT, PLAIN):
            self.refuses(NotABench, "given", value, lambda: Console(value))
            self.refuses(NotABench, "given", value, lambda: Console(bench=value))


if __name__ == "__main__":
    unittest.main()
