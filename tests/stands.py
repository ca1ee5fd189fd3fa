"""Benches for the tests: a filled one, and all that a bench tells, to compare it as a whole."""

from platelights.benches import Bench
from tests.values import ALONG, HALF, SLANT

PLAIN = (1, 0, 0, 0, 1)


def whole_of(bench):
    """All that a bench tells, to compare it as a whole."""
    names = bench.lights + bench.plates + bench.beams
    things = tuple([(name, bench.thing(name), name in bench) for name in names])
    beams = tuple([(name, bench.stack(name), bench.out(name)) for name in bench.beams])
    return (len(bench), bench.lights, bench.plates, bench.beams, bench.wishes, things, beams)


def story_of(bench):
    """What a bench tells now and after each undoing, down to the empty one; nothing is changed at the end."""
    told = []
    try:
        with bench.trial():
            told.append(whole_of(bench))
            while len(bench) > 0:
                bench.undo()
                told.append(whole_of(bench))
            raise EOFError()
    except EOFError:
        return tuple(told)


def filled():
    """A bench with two lights, three plates and two beams."""
    bench = Bench()
    bench.put_light("lamp", PLAIN)
    bench.put_light("sun", (2, 1, 0, 0, 1))
    bench.put_plate("first", ALONG)
    bench.put_plate("last", SLANT)
    bench.put_plate("net", HALF)
    bench.lay("beam", "lamp", ("first",))
    bench.lay("other", "sun", ("first", "last", "first"))
    return bench
