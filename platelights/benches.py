"""Benches: lights, plates and beams under names, wishes that always hold, and changes that can be taken back."""

from platelights.errors import Broken, InUse, InvalidIndex, InvalidNames, InvalidNumber, InvalidWish, NameTaken
from platelights.errors import NothingToUndo, UnknownName
from platelights.lights import check_light
from platelights.names import check_name, is_name
from platelights.plates import check_plate, through
from platelights.wholes import is_whole
from platelights.wishes import holds, is_wish, light_there, names_in, stack_there

_MOST_PLATES = 8


class State:
    """What stands on a bench at some time, and the wishes: never changed, so that it can be kept."""

    def __init__(self, things, wanted):
        self.things = things
        self.wanted = wanted


def _is_there(things, name, kind):
    """Whether a value is the name of a thing of a sort."""
    return is_name(name) and name in things and things[name][0] == kind


def _names_of(things, kind):
    """The ascending tuple of the names of all things of a sort."""
    return tuple(sorted([name for name in things if things[name][0] == kind]))


def _concerns(wish, things, name):
    """Whether it may depend on what stands under a name whether a wish holds."""
    for beam in names_in(wish):
        light, plates = things[beam][1]
        if name == beam or name == light or name in plates:
            return True
    return False


def _first_broken(state, name):
    """The index of the first wish that does not hold, if what stands under a name is new; None if all hold."""
    for index, wish in enumerate(state.wanted):
        if _concerns(wish, state.things, name) and not holds(wish, state.things):
            return index
    return None


class Trial:
    """What a with statement takes to leave a bench as it was if its block ends with an exception."""

    def __init__(self, bench):
        self.bench = bench
        self.story = bench.story

    def __enter__(self):
        self.story = self.bench.story
        return self.bench

    def __exit__(self, kind, value, trace):
        bench = self.bench
        if kind is not None:
            bench.story = self.story


class Bench:
    """Lights, plates and beams under names, and wishes; its story is what it was from the beginning on."""

    def __init__(self):
        self.story = (State({}, ()),)

    def _check_known(self, name):
        """Raise an error for what is no name in use here."""
        if name not in self:
            raise UnknownName(name)

    def _check_beam(self, name):
        """Raise an error for what is no name of a beam here."""
        if not _is_there(self.story[-1].things, name, "beam"):
            raise UnknownName(name)

    def _put(self, name, kind, thing):
        """Put a thing of a sort under a name."""
        now = self.story[-1]
        if name in now.things and now.things[name][0] != kind:
            raise NameTaken(name)
        state = State({**now.things, name: (kind, thing)}, now.wanted)
        broken = _first_broken(state, name)
        if broken is not None:
            raise Broken(broken)
        self.story = (*self.story, state)

    def put_light(self, name, light):
        """Put a light under a name."""
        check_name(name)
        check_light(light)
        self._put(name, "light", light)

    def put_plate(self, name, plate):
        """Put a plate under a name."""
        check_name(name)
        check_plate(plate)
        self._put(name, "plate", plate)

    def lay(self, name, light, plates):
        """Lay a beam of a light and plates, all told by their names, under a name."""
        check_name(name)
        things = self.story[-1].things
        if not _is_there(things, light, "light"):
            raise UnknownName(light)
        if type(plates) is not tuple:
            raise InvalidNames(None)
        for index, plate in enumerate(plates):
            if index == _MOST_PLATES or not _is_there(things, plate, "plate"):
                raise InvalidNames(index)
        self._put(name, "beam", (light, plates))

    def drop(self, name):
        """Take away what stands under a name."""
        self._check_known(name)
        now = self.story[-1]
        for beam in _names_of(now.things, "beam"):
            light, plates = now.things[beam][1]
            if name == light or name in plates:
                raise InUse(beam)
        for index, wish in enumerate(now.wanted):
            if name in names_in(wish):
                raise Broken(index)
        things = {other: now.things[other] for other in now.things if other != name}
        self.story = (*self.story, State(things, now.wanted))

    def thing(self, name):
        """The light, the plate, or the pair of a beam that stands under a name."""
        self._check_known(name)
        return self.story[-1].things[name][1]

    def stack(self, name):
        """The plates of a beam as they are now."""
        self._check_beam(name)
        return stack_there(self.story[-1].things, name)

    def out(self, name, many=None):
        """The light of a beam behind its first so many plates, behind all for None."""
        plates = self.stack(name)
        if many is not None and (not is_whole(many) or many < 0 or many > len(plates)):
            raise InvalidNumber(many)
        return through(plates[:many], light_there(self.story[-1].things, name))

    def wish(self, wish):
        """Make a wish that is to hold from now on."""
        if not is_wish(wish):
            raise InvalidWish(wish)
        for name in names_in(wish):
            self._check_beam(name)
        now = self.story[-1]
        if not holds(wish, now.things):
            raise Broken(len(now.wanted))
        self.story = (*self.story, State(now.things, (*now.wanted, wish)))

    def lift(self, index):
        """Take a wish away."""
        now = self.story[-1]
        if not is_whole(index) or index < 0 or index >= len(now.wanted):
            raise InvalidIndex(index)
        self.story = (*self.story, State(now.things, now.wanted[:index] + now.wanted[index + 1:]))

    def undo(self):
        """Take back the last change."""
        if len(self.story) == 1:
            raise NothingToUndo()
        self.story = self.story[:-1]

    def trial(self):
        """What a with statement takes: if its block ends with an exception, the bench is as it was before."""
        return Trial(self)

    def tried(self, action):
        """What a function returns of the bench; if it raises an error, the bench is as it was before."""
        with Trial(self) as bench:
            answer = action(bench)
        return answer

    def __len__(self):
        """How many changes can be taken back."""
        return len(self.story[1:])

    def __bool__(self):
        """A bench is true, whatever stands there."""
        return True

    def __contains__(self, name):
        """Whether a value is a name in use here."""
        return is_name(name) and name in self.story[-1].things

    @property
    def lights(self):
        """The ascending tuple of the names of lights."""
        return _names_of(self.story[-1].things, "light")

    @property
    def plates(self):
        """The ascending tuple of the names of plates."""
        return _names_of(self.story[-1].things, "plate")

    @property
    def beams(self):
        """The ascending tuple of the names of beams."""
        return _names_of(self.story[-1].things, "beam")

    @property
    def wishes(self):
        """The tuple of the wishes."""
        return self.story[-1].wanted
