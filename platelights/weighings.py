"""Papers of claims about unknown lights and about mixtures: whether each shows what is claimed."""

from platelights.fractions import is_fraction
from platelights.lights import crossed, in_cone, is_light, mirrored, read_level
from platelights.patchworks import patch_of
from platelights.ratios import ratio
from platelights.readings import equation_of, keeps_all, number_of, weighed
from platelights.tables import are_rows
from platelights.wholes import dot, has_word, is_row, is_whole

_NOUGHT = (0, 1)


def _is_look_along(row):
    """Whether four whole numbers are those of a look, but for a factor above 0."""
    return any(row) and in_cone(row)


def _is_pure_along(row):
    """Whether four whole numbers are those of a pure look, but for a factor above 0."""
    return _is_look_along(row) and crossed(row, row) == 0


def _bars_by_edge(readings, look, number, index):
    """Whether a pure look that reads 0 leaves no light, by the reading with an index."""
    if not is_whole(index) or index < 0 or index >= len(readings):
        return False
    row, beside, _ = equation_of(readings[index])
    return _is_pure_along(look) and number == 0 and beside != 0 and dot(row, mirrored(look)) == 0


def shows_no_light(claim, paper):
    """Whether a paper shows that no light fits some readings."""
    readings = claim[1]
    if not has_word(paper) or len(paper) < 2 or not is_row(paper[1], len(readings)):
        return False
    word, (*row, number) = paper[0], weighed(readings, [(weight, 1) for weight in paper[1]])[0]
    if word == "edge":
        return len(paper) == 3 and _bars_by_edge(readings, row, number, paper[2])
    if len(paper) != 2:
        return False
    if word == "equations":
        return not any(row) and number != 0
    return word == "look" and _is_look_along(row) and number < 0


def _leaves_one(readings, look, number):
    """Whether a look that is the weighed sum of rows, with the sum of numbers, leaves no more than one light."""
    if not _is_look_along(look) or number != 0:
        return False
    return crossed(look, look) > 0 or any([number_of(reading) != _NOUGHT for reading in readings])


def _settles(readings, look, proof):
    """Whether weights show that a look reads one level of all lights that fit some readings."""
    if not has_word(proof) or len(proof) != 2 or type(proof[1]) is not tuple or len(proof[1]) != len(readings):
        return False
    if not all([is_fraction(weight) for weight in proof[1]]):
        return False
    (*row, number), below = weighed(readings, proof[1])
    if proof[0] == "sum":
        return row == [below * part for part in look]
    return proof[0] == "edge" and _leaves_one(readings, row, number)


def shows_settled(claim, paper):
    """Whether a paper is a light that fits and of which a look reads a level, and weights by which all others do so."""
    _, readings, look, level = claim
    if type(paper) is not tuple or len(paper) != 2 or not is_light(paper[0]):
        return False
    light, proof = paper
    return keeps_all(light, readings) and read_level(look, light) == level and _settles(readings, look, proof)


def shows_open(claim, paper):
    """Whether a paper is two lights that fit and of which a look reads unlike levels."""
    _, readings, look = claim
    if type(paper) is not tuple or len(paper) != 2 or not is_light(paper[0]) or not is_light(paper[1]):
        return False
    one, two = paper
    return keeps_all(one, readings) and keeps_all(two, readings) and read_level(look, one) != read_level(look, two)


def _are_weights(value, many):
    """Whether a value is a tuple of so many fractions from 0 on."""
    return type(value) is tuple and len(value) == many and all([is_fraction(part) and part[0] >= 0 for part in value])


def _weighed_rows(rows, belows, weights):
    """The sum of rows over numbers times fractions, each number of it a fraction."""
    whole = 1
    for below, weight in zip(belows, weights):
        whole *= below * weight[1]
    shares = [weight[0] * (whole // (below * weight[1])) for below, weight in zip(belows, weights)]
    return [ratio(dot(shares, [row[at] for row in rows]), whole) for at in range(len(rows[0]))]


def shows_mixture(claim, paper):
    """Whether a paper is weights by which lights add up to a light."""
    _, lights, light = claim
    if not _are_weights(paper, len(lights)):
        return False
    total = _weighed_rows([one[:4] for one in lights], [one[4] for one in lights], paper)
    return total == [ratio(number, light[4]) for number in light[:4]]


def shows_no_mixture(claim, paper):
    """Whether a paper is a row that is from 0 on at lights and below 0 at a light."""
    _, lights, light = claim
    return is_row(paper, 4) and min([dot(paper, one[:4]) for one in lights]) >= 0 and dot(paper, light[:4]) < 0


def shows_patchwork(claim, paper):
    """Whether a paper is weights that add up to 1 by which tables add up to a table."""
    _, tables, table = claim
    if not _are_weights(paper, len(tables)):
        return False
    total = _weighed_rows([patch_of(one) for one in tables], [one[1] for one in tables], paper)
    return total == [ratio(number, table[1]) for number in patch_of(table)]


def shows_no_patchwork(claim, paper):
    """Whether a paper is rows and a number that part a table from all patchworks of tables."""
    _, tables, table = claim
    if type(paper) is not tuple or len(paper) != 2 or not are_rows(paper[0]) or not is_whole(paper[1]):
        return False
    parting = [*[number for row in paper[0] for number in row], -paper[1]]
    return min([dot(parting, patch_of(one)) for one in tables]) >= 0 and dot(parting, patch_of(table)) < 0
