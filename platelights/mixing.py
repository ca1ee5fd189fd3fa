"""Lights that are mixed of told ones, and rows of numbers that part other lights from them."""

from platelights.errors import InvalidIndex, InvalidLights
from platelights.lights import check_light, check_lights
from platelights.ratios import ratio, ratio_sign
from platelights.sums import fewest_rows, parting_from, row_weights, some_weights
from platelights.wholes import is_whole

_NOUGHT = (0, 1)


def check_some_lights(value):
    """Raise an error for what is no tuple of one to eight lights."""
    check_lights(value)
    if len(value) == 0:
        raise InvalidLights(None)


def _rows(lights):
    """The four whole numbers of each light."""
    return [light[:4] for light in lights]


def _share(weight, told, below, light):
    """The weight of a told light in a light, by the weight of its whole numbers in those of the light."""
    return ratio(weight * told[4], below * light[4])


def mixture(lights, light):
    """Weights by which lights add up to a light; None if it is no mixture of them."""
    check_some_lights(lights)
    check_light(light)
    found = row_weights(_rows(lights), light[:4])
    if found is None:
        return None
    weights, below = found
    return tuple([_share(weight, told, below, light) for weight, told in zip(weights, lights)])


def parting_row(lights, light):
    """Four whole numbers that make 0 or more of lights and less than 0 of a light; None if it is a mixture."""
    check_some_lights(lights)
    check_light(light)
    return parting_from(_rows(lights), light[:4])


def fewest_lights(lights, light):
    """The indexes of the fewest lights, of these the least, of which a light is a mixture; None."""
    check_some_lights(lights)
    check_light(light)
    return fewest_rows(_rows(lights), light[:4])


def _weights_seen(lights, light, index):
    """The weights of the light with an index in some mixtures, the least and the greatest of all among them."""
    seen = []
    for chosen, weights, below in some_weights(_rows(lights), light[:4]):
        if index in chosen:
            seen.append(_share(weights[chosen.index(index)], lights[index], below, light))
        else:
            seen.append(_NOUGHT)
    return seen


def weight_range(lights, light, index):
    """The least and the greatest weight of the light with an index; None for no mixture, or if it is dark."""
    check_some_lights(lights)
    check_light(light)
    if not is_whole(index) or index < 0 or index >= len(lights):
        raise InvalidIndex(index)
    seen = _weights_seen(lights, light, index)
    if len(seen) == 0 or not any(lights[index][:4]):
        return None
    least = greatest = seen[0]
    for weight in seen:
        if ratio_sign(weight, least) < 0:
            least = weight
        if ratio_sign(weight, greatest) > 0:
            greatest = weight
    return (least, greatest)


def _is_mixture(lights, light):
    """Whether a light is a mixture of lights, of which there may be none."""
    return fewest_rows(_rows(lights), light[:4]) is not None


def needless(lights):
    """The indexes of the lights that are mixtures of the others."""
    check_some_lights(lights)
    return tuple([
        index for index in range(len(lights)) if _is_mixture(lights[:index] + lights[index + 1:], lights[index])
    ])


def reach_the_same(lights, others):
    """Whether each of some lights is a mixture of others, and the other way round."""
    check_some_lights(lights)
    check_some_lights(others)
    if not all([_is_mixture(others, light) for light in lights]):
        return False
    return all([_is_mixture(lights, light) for light in others])
