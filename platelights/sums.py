"""Sums of rows of whole numbers with weights from 0 on, and rows that part others from a target that is no such sum."""

from itertools import combinations

from platelights.equations import rank_of, solution_of, weights_to
from platelights.wholes import combined, dot, reduced


def _choices(rows, least):
    """The ascending tuples of indexes of rows, from so many on to as many as are ever needed, the shortest first."""
    # What is a sum of rows is one of rows of which none is a sum of multiples of the others (Caratheodory).
    return [
        chosen for many in range(least, max(rank_of(rows), 1) + 1) for chosen in combinations(range(len(rows)), many)
    ]


def _weights_at(rows, target, chosen):
    """Weights from 0 on, over one number, by which chosen rows add up to a target; None if there are none."""
    told = weights_to([rows[at] for at in chosen], target)
    return told if told is not None and min(told[0]) >= 0 else None


def fewest_rows(rows, target):
    """The indexes, the fewest and of these the least, of rows that add up to a target with weights; None."""
    for chosen in _choices(rows, 1):
        if _weights_at(rows, target, chosen) is not None:
            return chosen
    return None


def row_weights(rows, target):
    """Whole numbers from 0 on over one above 0 by which rows add up to a target; None if there are none."""
    chosen = fewest_rows(rows, target)
    if chosen is None:
        return None
    weights, below = _weights_at(rows, target, chosen)
    whole = [0] * len(rows)
    for at, weight in zip(chosen, weights):
        whole[at] = weight
    return whole, below


def some_weights(rows, target):
    """Weights from 0 on by which a few rows add up to a target: their indexes, the weights and what these are over.

    All weights of which no others have the middle are among them, so the least and the greatest of each row are, too.
    """
    found = []
    for chosen in _choices(rows, 1):
        told = _weights_at(rows, target, chosen)
        if told is not None:
            found.append((chosen, told[0], told[1]))
    return found


def _rest_of(rows, target):
    """A target's part within what rows span, less the target: upright, in the plain sense, on all of them."""
    total, below = [0] * len(target), 1
    if len(rows) > 0:
        products = [[dot(row, other) for other in rows] for row in rows]
        weights, below = solution_of(products, [dot(row, target) for row in rows])
        for weight, row in zip(weights, rows):
            total = combined(1, total, weight, row)
    return combined(1, total, -below, target)


def parting_from(rows, target):
    """Whole numbers that make 0 or more of rows and less than 0 of a target; None if it is a sum of the rows."""
    # From the nearest sum the way to the target leads away from all rows, and this sum is the target's part in some.
    for chosen in _choices(rows, 0):
        rest = _rest_of([rows[at] for at in chosen], target)
        if any(rest) and all([dot(rest, row) >= 0 for row in rows]):
            return reduced(rest)
    return None
