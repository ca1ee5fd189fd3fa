"""Consoles: a bench that is changed and asked by lines of text."""

from platelights.benches import Bench
from platelights.errors import InvalidPhrase, NotABench
from platelights.lights import is_light, is_look, read_level
from platelights.names import is_name
from platelights.texts import fraction_text, numbers_text, plate_in, plate_text, wholes_in

# The words that come before a name with a colon, before a name alone, and alone.
_TELLING = ("light", "plate", "beam", "level")
_NAMING = ("drop", "show", "out")
_BARE = ("undo", "names")


def _told_in(word, words):
    """The light, plate, names or look that the words behind a colon tell; None if they tell none."""
    if word == "light":
        light = wholes_in(words)
        return light if is_light(light) else None
    if word == "level":
        look = wholes_in(words)
        return look if is_look(look) else None
    if word == "plate":
        return plate_in(" ".join(words))
    return tuple(words) if len(words) > 0 and all([is_name(name) for name in words]) else None


def _phrase_in(line):
    """The word, the name and what is told in a line, None for what it has not; None for a line of no form."""
    if type(line) is not str:
        return None
    words = line.split(" ")
    word, name = words[0], "".join(words[1:2])
    if word in _BARE:
        return (word, None, None) if len(words) == 1 else None
    if word in _NAMING:
        return (word, name, None) if len(words) == 2 and is_name(name) else None
    if word not in _TELLING or not name.endswith(":") or not is_name(name[:-1]):
        return None
    told = _told_in(word, words[2:])
    return None if told is None else (word, name[:-1], told)


def _shown(bench, name):
    """The text of what stands under a name."""
    thing = bench.thing(name)
    if name in bench.lights:
        return numbers_text(thing)
    return plate_text(thing) if name in bench.plates else " ".join([thing[0], *thing[1]])


def _change(bench, phrase):
    """Do what a phrase asks of a bench that changes it."""
    word, name, told = phrase
    if word == "light":
        bench.put_light(name, told)
    elif word == "plate":
        bench.put_plate(name, told)
    elif word == "beam":
        bench.lay(name, told[0], told[1:])
    elif word == "drop":
        bench.drop(name)
    else:
        bench.undo()


def _answer(bench, phrase):
    """What a bench tells to a phrase; None if the phrase asks for a change."""
    word, name, told = phrase
    if word == "show":
        return _shown(bench, name)
    if word == "out":
        return numbers_text(bench.out(name))
    if word == "level":
        return fraction_text(read_level(told, bench.out(name)))
    if word != "names":
        return None
    names = sorted([*bench.lights, *bench.plates, *bench.beams])
    return " ".join(names) if len(names) > 0 else "none"


class Console:
    """A bench that lines of text change and ask."""

    def __init__(self, bench):
        if not isinstance(bench, Bench):
            raise NotABench(bench)
        self.bench = bench

    def say(self, line):
        """Do what a line says, and tell its answer."""
        phrase = _phrase_in(line)
        if phrase is None:
            raise InvalidPhrase(line)
        answer = _answer(self.bench, phrase)
        if answer is not None:
            return answer
        _change(self.bench, phrase)
        return "done"
