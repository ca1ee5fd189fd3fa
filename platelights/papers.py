"""Papers of claims about plates, tables, beams, turns and courses: whether each shows what is claimed."""

from platelights.amplitudes import is_matrix, table_of_matrix
from platelights.angles import minors_of
from platelights.beams import contrast_square, has_fringes
from platelights.courses import course_less, level_at
from platelights.fractions import is_fraction
from platelights.gaussians import is_gaussian_row
from platelights.keepers import weight
from platelights.leads import has_one_level, have_one_hand, have_one_product
from platelights.lights import crossed, in_cone, is_light
from platelights.plates import table_of_stack, through
from platelights.polynomials import polynomial_product
from platelights.ratios import ratio, ratio_product, ratio_sign
from platelights.settings import is_setting
from platelights.tables import led_numbers, table_of, table_sum, table_times
from platelights.wholes import combined, dot, has_word, is_row, is_whole

_MOST_MATRICES = 16
_NOUGHT_ROWS = ((0, 0, 0, 0), (0, 0, 0, 0), (0, 0, 0, 0), (0, 0, 0, 0))


def shows_unlike(claim, paper):
    """Whether a paper is a light on which two stacks part."""
    return is_light(paper) and through(claim[1], paper) != through(claim[2], paper)


def shows_lost(claim, paper):
    """Whether a paper is a light that a table leads to no light."""
    return is_light(paper) and not is_light(led_numbers(claim[1], paper))


def _is_made_part(value):
    """Whether a value is a pair of a matrix and a fraction from 0 on."""
    if type(value) is not tuple or len(value) != 2:
        return False
    return is_matrix(value[0]) and is_fraction(value[1]) and value[1][0] >= 0


def shows_made(claim, paper):
    """Whether a paper is matrices and fractions of which a table is made."""
    if type(paper) is not tuple or len(paper) > _MOST_MATRICES or not all([_is_made_part(part) for part in paper]):
        return False
    total = table_of(_NOUGHT_ROWS, 1)
    for matrix, part in paper:
        total = table_sum(total, table_times(table_of_matrix(matrix), part))
    return total == claim[1]


def shows_not_made(claim, paper):
    """Whether a paper is a row with a weight below 0."""
    return is_gaussian_row(paper, 4) and weight(claim[1], paper)[0] < 0


def shows_fringes(claim, paper):
    """Whether a paper is a light that makes fringes."""
    return is_light(paper) and has_fringes(claim[1], claim[2], paper)


def shows_sharper(claim, paper):
    """Whether a paper is a light with a contrast above a share."""
    _, one, two, share = claim
    square = contrast_square(one, two, paper) if is_light(paper) else None
    return square is not None and ratio_sign(square, ratio_product(share, share)) > 0


def _pairs_at(pairs, indexes):
    """The pairs with indexes; () if one of these is none."""
    if not all([is_whole(at) and 0 <= at < len(pairs) for at in indexes]):
        return ()
    return tuple([pairs[at] for at in indexes])


def shows_no_turn(claim, paper):
    """Whether a paper names pairs that no turn fits."""
    if not has_word(paper):
        return False
    word, indexes = paper[0], paper[1:]
    chosen = _pairs_at(claim[1], indexes)
    if word == "level":
        return len(chosen) == 1 and not has_one_level(chosen[0])
    if word == "product":
        return len(chosen) == 2 and indexes[0] <= indexes[1] and not have_one_product(chosen[0], chosen[1])
    if word != "hand" or len(chosen) != 3:
        return False
    return indexes[0] < indexes[1] < indexes[2] and not have_one_hand(chosen)


def shows_brighter(claim, paper):
    """Whether a paper is a fraction by which a course is above another one at all angles."""
    return is_fraction(paper) and min(minors_of(course_less(claim[1], claim[2])[:5], paper)) > 0


def _is_square_of(numbers, root, part):
    """Whether five numbers are a fraction above 0 times those of the square of a form that is 0 at some angle."""
    if not is_row(root, 3) or not is_fraction(part) or part[0] <= 0 or root[1] * root[1] < 4 * root[0] * root[2]:
        return False
    square = polynomial_product(root, root)
    whole = [*square, *[0] * (5 - len(square))]
    return not any(combined(part[1], numbers, -part[0], whole))


def shows_not_brighter(claim, paper):
    """Whether a paper tells a setting, or a square, by which a course is not above another one at all angles."""
    less = course_less(claim[1], claim[2])
    if not has_word(paper):
        return False
    if paper[0] == "setting":
        return len(paper) == 2 and is_setting(paper[1]) and level_at(less, paper[1])[0] <= 0
    return paper[0] == "square" and len(paper) == 3 and _is_square_of(less[:5], paper[1], paper[2])


def _loss(stack, light):
    """The four numbers of a light less those of what a stack makes of it, times a number above 0."""
    rows, below = table_of_stack(stack)
    return [below * number - dot(row, light[:4]) for number, row in zip(light[:4], rows)]


def _is_between(row):
    """Whether four numbers are those of a light that is neither pure nor dark."""
    return in_cone(row) and crossed(row, row) > 0


def shows_fading(claim, paper):
    """Whether a paper is a light that shows that all lights fade."""
    return is_light(paper) and _is_between(paper[:4]) and _is_between(_loss(claim[1], paper))


def shows_last_level(claim, paper):
    """Whether a paper is a mean light with a level, and numbers of which a round takes what a light has beside it."""
    _, stack, light, level = claim
    if type(paper) is not tuple or len(paper) != 2:
        return False
    mean, lost = paper
    if not is_light(mean) or not is_row(lost, 5) or lost[4] <= 0:
        return False
    rest = combined(mean[4], light[:4], -light[4], mean[:4])
    below = table_of_stack(stack)[1] * lost[4]
    is_rest = not any(combined(below, rest, -light[4] * mean[4], _loss(stack, lost)))
    return is_rest and through(stack, mean) == mean and ratio(mean[0], mean[4]) == level
