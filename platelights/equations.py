"""Linear equations with whole numbers: the rank of rows, numbers that keep all equations, and why none do."""

from math import lcm

from platelights.wholes import combined, reduced


def _cleared(row, leader, at):
    """A row less such a multiple of a leader that it has 0 at a place, times a number other than 0."""
    return reduced(combined(leader[at], row, -row[at], leader))


def _stepped(rows, width):
    """Steps of Gauss: pairs of a place and a row with 0 at the others' places, and the rows that are left.

    Only the first places, so many as the width tells, are taken; the rows that are left have 0 there.
    """
    steps, left = [], list(rows)
    for at in range(width):
        leaders = [row for row in left if row[at] != 0]
        if len(leaders) > 0:
            leader = leaders[0]
            steps = [(place, _cleared(row, leader, at)) for place, row in steps]
            steps.append((at, leader))
            left = [_cleared(row, leader, at) for row in left]
    return steps, left


def rank_of(rows):
    """The dimension of the space that rows of one length span."""
    steps, _ = _stepped(rows, len(rows[0]) if len(rows) > 0 else 0)
    return len(steps)


def solution_of(rows, numbers):
    """Whole numbers over one above 0 that each row makes the number beside it of; None if there are none."""
    width = len(rows[0])
    steps, left = _stepped([(*row, number) for row, number in zip(rows, numbers)], width)
    if any([row[width] != 0 for row in left]):
        return None
    below = 1
    for at, row in steps:
        below = lcm(below, row[at])
    found = [0] * width
    for at, row in steps:
        found[at] = row[width] * (below // row[at])
    return tuple(found), below


def null_rows(rows, width):
    """Rows of so many whole numbers, none a sum of the others, that span all with which each told row makes 0."""
    steps, _ = _stepped(rows, width)
    places = [place for place, _ in steps]
    found = []
    for at in range(width):
        if at not in places:
            below = 1
            for place, row in steps:
                below = lcm(below, row[place])
            null = [below if place == at else 0 for place in range(width)]
            for place, row in steps:
                null[place] = -row[at] * (below // row[place])
            found.append(reduced(null))
    return found


def odd_weights(rows, numbers):
    """Whole numbers by which rows add up to 0 and the numbers beside them do not; None if there are none."""
    width, many = len(rows[0]), len(rows)
    marks = [[1 if at == place else 0 for place in range(many)] for at in range(many)]
    _, left = _stepped([(*row, number, *mark) for row, number, mark in zip(rows, numbers, marks)], width)
    for row in left:
        if row[width] != 0:
            return row[width + 1:]
    return None


def weights_to(rows, target):
    """Whole numbers over one above 0 by which rows, at least one, add up to a target; None if there are none."""
    return solution_of([[row[at] for row in rows] for at in range(len(target))], target)
