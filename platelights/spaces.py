"""The rows of four numbers that keep some linear equations, and the lights among them.

Rows are told by five whole numbers, as lights are: four, and what they are over. Two rows are upright on one another
if the product of lights, taken of them, is 0. The steps of a space lead from each of its rows to all others.
"""

from math import isqrt

from platelights.equations import null_rows, rank_of, solution_of
from platelights.lights import crossed
from platelights.wholes import combined, dot, reduced

_LEVEL = (1, 0, 0, 0)
_DARK = (0, 0, 0, 0, 1)


def _products_of(steps):
    """The products of some steps with one another."""
    return [[crossed(step, other) for other in steps] for step in steps]


def _sum_of(shares, rows):
    """The sum of rows of four whole numbers times whole numbers."""
    total = (0, 0, 0, 0)
    for share, row in zip(shares, rows):
        total = combined(1, total, share, row)
    return total


def part_within(row, steps):
    """The part of four whole numbers within the rows that steps span, five numbers; what is left is upright on these.

    No row that the steps span, but 0, is upright on all of them.
    """
    if len(steps) == 0:
        return _DARK
    shares, below = solution_of(_products_of(steps), [crossed(row, step) for step in steps])
    return reduced((*_sum_of(shares, steps), below))


def upright_part(row, steps):
    """Five numbers less their part within the rows that steps span."""
    part = part_within(row[:4], steps)
    return reduced((*combined(part[4], row[:4], -1, part[:4]), part[4] * row[4]))


def _sort_of(steps):
    """Whether steps are inward, grazing or outward."""
    if rank_of(_products_of(steps)) < len(steps):
        return "grazing"
    # The part of plain light is a light if some light is among the steps; otherwise it has no level above 0.
    return "inward" if part_within(_LEVEL, steps)[0] > 0 else "outward"


def _rim_of(steps):
    """The pure row, with a level above 0, along which grazing steps are upright on all steps."""
    shares = null_rows(_products_of(steps), len(steps))[0]
    rim = reduced(_sum_of(shares, steps))
    return rim if rim[0] > 0 else tuple([-number for number in rim])


class Space:
    """The rows that keep some equations: one of them, the steps, and how these lean.

    If the steps graze, the rim is the pure row among them that is upright on all; otherwise the centre is the row of
    the space that is upright on all steps.
    """

    def __init__(self, start, steps):
        self.start = start
        self.steps = steps
        self.lean = _sort_of(steps)
        self.rim = _rim_of(steps) if self.lean == "grazing" else None
        self.centre = None if self.lean == "grazing" else upright_part(start, steps)


def space_of(rows, numbers):
    """The space of all that rows of four whole numbers make the numbers beside them of; None if there is nothing."""
    # An equation that everything keeps stands first, so that there is one at all.
    whole = [(0, 0, 0, 0), *rows]
    start = solution_of(whole, [0, *numbers])
    if start is None:
        return None
    return Space((*start[0], start[1]), null_rows(whole, 4))


def _grazing_sort(space):
    """What lights are in a space with grazing steps."""
    side = crossed(space.start[:4], space.rim)
    if side == 0:
        return "none" if any(space.start[:4]) else "ray"
    return "endless" if side > 0 else "none"


def _outward_sort(space):
    """What lights are in a space with outward steps."""
    size = crossed(space.centre[:4], space.centre[:4])
    if size < 0 or space.centre[0] < 0:
        return "none"
    return "one" if size == 0 or len(space.steps) == 0 else "some"


def lights_within(space):
    """What lights are in a space: none, one, some, a ray (the multiples of its rim) or otherwise endless."""
    if space is None:
        return "none"
    if space.lean == "inward":
        return "endless"
    return _grazing_sort(space) if space.lean == "grazing" else _outward_sort(space)


def light_among_steps(space):
    """Four numbers of a light that is among the steps of a space, which are not outward."""
    return space.rim if space.lean == "grazing" else part_within(_LEVEL, space.steps)[:4]


def light_within(space):
    """A light in a space; None if there is none."""
    sort = lights_within(space)
    if sort == "none":
        return None
    if sort == "ray":
        return (*space.rim, 1)
    if space.lean == "outward":
        return space.centre
    step = light_among_steps(space)
    if space.lean == "inward":
        # Centre and step are upright on one another, so the step's square is to be so many times as great.
        row = space.centre
        many = isqrt(-crossed(row[:4], row[:4]) // (row[4] * row[4] * crossed(step, step))) + 1
    else:
        # The square grows by twice the product of row and rim with each step, and lessens with each step back.
        row = space.start
        many = -(crossed(row[:4], row[:4]) // (2 * row[4] * crossed(row[:4], step)))
    return reduced((*combined(1, row[:4], many * row[4], step), row[4]))


def other_light_within(space, look):
    """A light of which a look reads another level than of the light that is told first, if it is not settled."""
    light = light_within(space)
    if lights_within(space) != "some":
        return reduced((*combined(1, light[:4], light[4], light_among_steps(space)), light[4]))
    step = [own for own in space.steps if dot(look, own) != 0][0]
    # The square of the centre is to make up for that of so small a part of the step.
    parts = isqrt(-crossed(step, step) * light[4] * light[4] // crossed(light[:4], light[:4])) + 1
    return reduced((*combined(parts, light[:4], light[4], step), parts * light[4]))


def hull_of(space):
    """A row and steps that lead to all of the lights in a space, and along each of which there are some; or None."""
    sort = lights_within(space)
    if sort == "none":
        return None
    if sort == "one":
        return (space.centre, [])
    if sort == "ray":
        return (_DARK, [space.rim])
    return (space.start, space.steps)


def others_than_rim(space):
    """The steps of a space with grazing steps, but one, such that these and the rim lead as far as all steps."""
    choices = [space.steps[:at] + space.steps[at + 1:] for at in range(len(space.steps))]
    return [others for others in choices if rank_of([*others, space.rim]) == len(space.steps)][0]


def barring_light(space):
    """Four numbers of a light, upright on all steps, with a product below 0, or 0, with a space without lights.

    It is 0 only if the steps graze and the light is the rim.
    """
    if space.lean == "grazing":
        return space.rim
    centre = space.centre[:4]
    light, size = upright_part((*_LEVEL, 1), space.steps)[:4], crossed(centre, centre)
    if size >= 0:
        return light
    # Its part that is upright on the centre is a light, too, which makes up for what the centre lacks.
    upright = reduced(combined(-size, light, crossed(light, centre), centre))
    return combined(1, centre, isqrt(-size // crossed(upright, upright)) + 1, upright)
