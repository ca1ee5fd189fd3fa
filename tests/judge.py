"""The document's point [54] once more, word by word, for the tests: what a paper must be to show a claim."""

from fractions import Fraction

from platelights.amplitudes import is_matrix
from platelights.courses import is_course
from platelights.fractions import is_fraction
from platelights.keepers import lost_light
from platelights.lights import is_light, is_look
from platelights.plates import is_stack
from platelights.readings import is_reading
from platelights.tables import is_table
from platelights.turns import is_turn
from tests.reckon import bars_all_lights, companion_entry, complex_matrix, diagonal, dot, equation, is_light_row
from tests.reckon import is_look_row, keeps, led, level_of, multiplied, numbers_of, product, row_of, rows_of
from tests.reckon import rows_of_matrix, rows_of_stack, rows_of_turn, starred, sum_of_parts, swing_of, upright
from tests.reckon import weighed_equation, weight_of, worth
from tests.values import Draw

UNIT, NOUGHT = diagonal(1, 1, 1, 1), diagonal(0, 0, 0, 0)


def is_number(value):
    return type(value) is int


def are_many(value, is_right, least, most):
    return type(value) is tuple and least <= len(value) <= most and all(is_right(one) for one in value)


def is_pair_of_lights(value):
    return type(value) is tuple and len(value) == 2 and is_light(value[0]) and is_light(value[1])


PARTS = {
    "S": is_stack, "M": is_table, "J": is_matrix, "L": is_light, "K": is_look, "T": is_turn, "F": is_course,
    "f": is_fraction, "k": is_number, "s": lambda value: is_fraction(value) and 0 <= worth(value) <= 1,
    "R": lambda value: are_many(value, is_reading, 0, 8), "N": lambda value: are_many(value, is_light, 1, 8),
    "B": lambda value: are_many(value, is_table, 1, 6), "P": lambda value: are_many(value, is_pair_of_lights, 0, 6),
}
FORMS = {
    "alike": "SS", "unlike": "SS", "keeps": "M", "loses": "M", "made": "M", "not made": "M", "rank": "Mk",
    "fringes": "JJ",
    "no fringes": "JJ", "sharper": "JJs", "fits": "RL", "no light": "R", "settled": "RKf", "open": "RK",
    "mixture": "NL",
    "no mixture": "NL", "patchwork": "BM", "no patchwork": "BM", "leads": "PT", "no turn": "P", "order": "Tk",
    "never round": "T", "brighter": "FF", "not brighter": "FF", "one way": "S", "nothing back": "S", "unchanged": "SL",
    "fading": "S", "last level": "SLf", "comes back": "SLk", "never back": "SL",
}
BARE = ("alike", "keeps", "rank", "no fringes", "fits", "leads", "order", "never round", "one way", "nothing back",
        "unchanged", "comes back", "never back")


def is_claim(value):
    if type(value) is not tuple or len(value) == 0 or type(value[0]) is not str or value[0] not in FORMS:
        return False
    form = FORMS[value[0]]
    return len(value) == len(form) + 1 and all(PARTS[sort](part) for sort, part in zip(form, value[1:]))


def back_of_plate(plate):
    word = plate[0]
    if word in ("polariser", "partial"):
        q, u, v, n = plate[1]
        return (word, (q, u, -v, n)) + plate[2:]
    if word == "turner":
        a, b, c, d = plate[1]
        turn = (a, b, c, -d)
        first = [number for number in turn if number][0]
        return (word, turn if first > 0 else tuple([-number for number in turn]))
    return plate if word != "set" else ("set", plate[1], back_of_plate(plate[2]))


def rows_of_back(stack):
    return rows_of_stack([back_of_plate(plate) for plate in reversed(stack)])


def made_rank(table):
    """The rank of the companion if no row has a weight below 0, else None: as a real table of eight rows, by Gauss."""
    rows = rows_of(table)
    wide = [[Fraction(0)] * 8 for _ in range(8)]
    for at in range(4):
        for place in range(4):
            x, y = companion_entry(rows, at, place)
            wide[at][place], wide[at + 4][place + 4] = x, x
            wide[at][place + 4], wide[at + 4][place] = -y, y
    rank = 0
    while any(wide[at][at] != 0 for at in range(len(wide))):
        pivot = next(at for at in range(len(wide)) if wide[at][at] != 0)
        row = wide[pivot]
        if row[pivot] < 0:
            return None
        wide = [[line[at] - line[pivot] * row[at] / row[pivot] for at in range(len(row)) if at != pivot]
                for number, line in enumerate(wide) if number != pivot]
        rank += 1
    return None if any(any(row) for row in wide) else rank // 2


def keeps_all_lights(table):
    """Whether a table is seen to keep lights: no drawn light is lost, nor the one that the program tells of."""
    draw, rows = Draw(99), rows_of(table)
    lights = [draw.pure(3) for _ in range(60)] + [draw.light() for _ in range(20)]
    return all(is_light_row(led(rows, numbers_of(light))) for light in lights + [lost_light(table) or (1, 0, 0, 0, 1)])


def order_of(rows):
    """The least power from 1 to 12 of sixteen numbers that is the unit table; None."""
    power = rows
    for many in range(1, 13):
        if power == UNIT:
            return many
        power = multiplied(rows, power)
    return None


def rounds_of(stack, light):
    """After how many rounds, from 1 to 12, a light is as it was; None."""
    rows, numbers = rows_of_stack(stack), numbers_of(light)
    for many in range(1, 13):
        numbers = led(rows, numbers)
        if numbers == numbers_of(light):
            return many
    return None


def is_so(claim):
    """Whether a claim without a paper is so."""
    word, first = claim[:2]
    if word == "alike":
        return rows_of_stack(first) == rows_of_stack(claim[2])
    if word == "keeps":
        return keeps_all_lights(first)
    if word == "rank":
        return made_rank(first) == claim[2]
    if word == "no fringes":
        whole = multiplied(starred(complex_matrix(first)), complex_matrix(claim[2]))
        return not any(number for row in whole for number in row)
    if word == "fits":
        return all(keeps(numbers_of(claim[2]), reading) for reading in first)
    if word == "leads":
        rows = rows_of_turn(claim[2])
        return all(led(rows, numbers_of(before)) == numbers_of(after) for before, after in first)
    if word in ("order", "never round"):
        return order_of(rows_of_turn(first)) == (claim[2] if word == "order" else None)
    forth, back = rows_of_stack(first), rows_of_back(first)
    if word == "one way":
        return forth != NOUGHT and back == NOUGHT
    if word == "nothing back":
        return forth != NOUGHT and multiplied(back, forth) == NOUGHT
    if claim[2][0] == 0:
        return False
    if word == "unchanged":
        return rounds_of(first, claim[2]) == 1
    return rounds_of(first, claim[2]) == (claim[3] if word == "comes back" else None)


def fringe_of(one, two, light):
    """A, B and D by the levels at three phases, z = 1, -1, i."""
    levels = []
    for turned in (1, -1, 1j):
        pairs = zip(complex_matrix(one), complex_matrix(two))
        whole = [[x + turned * y for x, y in zip(row, other)] for row, other in pairs]
        gaussians = tuple([tuple([(int(x.real), int(x.imag)) for x in row]) for row in whole])
        levels.append(led(rows_of_matrix(gaussians), numbers_of(light))[0])
    mean = (levels[0] + levels[1]) / 2
    return mean, levels[0] - mean, levels[2] - mean


def is_inside(row):
    return row[0] > 0 and product(row, row) > 0


def less(row, other):
    return [one - two for one, two in zip(row, other)]


def shows_of_light(claim, paper):
    """Whether a light shows what is claimed."""
    word, first = claim[:2]
    if not is_light(paper):
        return False
    numbers = numbers_of(paper)
    if word == "unlike":
        return led(rows_of_stack(first), numbers) != led(rows_of_stack(claim[2]), numbers)
    if word == "loses":
        return not is_light_row(led(rows_of(first), numbers))
    if word == "fading":
        return is_inside(numbers) and is_inside(less(numbers, led(rows_of_stack(first), numbers)))
    mean, across, along = fringe_of(first, claim[2], paper)
    if word == "fringes":
        return (across, along) != (0, 0)
    return mean != 0 and (across ** 2 + along ** 2) / mean ** 2 > worth(claim[3]) ** 2


def shows_made(claim, paper):
    if claim[0] == "not made":
        shaped = are_many(paper, lambda one: are_many(one, is_number, 2, 2), 4, 4)
        return shaped and weight_of(rows_of(claim[1]), paper) < 0
    if not are_many(paper, lambda one: type(one) is tuple and len(one) == 2 and is_matrix(one[0]), 0, 16):
        return False
    if not all(is_fraction(part) and part[0] >= 0 for _, part in paper):
        return False
    return sum_of_parts(paper) == rows_of(claim[1])


def shows_settled(claim, paper):
    _, readings, look, level = claim
    if type(paper) is not tuple or len(paper) != 2 or not is_light(paper[0]):
        return False
    numbers, proof = numbers_of(paper[0]), paper[1]
    if not all(keeps(numbers, reading) for reading in readings) or dot(look, numbers) != worth(level):
        return False
    if type(proof) is not tuple or len(proof) != 2 or type(proof[0]) is not str:
        return False
    if not are_many(proof[1], is_fraction, len(readings), len(readings)):
        return False
    row, number = weighed_equation(readings, [worth(weight) for weight in proof[1]])
    if proof[0] == "sum":
        return row == list(look)
    if proof[0] != "edge" or not is_look_row(row) or number != 0:
        return False
    return product(row, row) > 0 or any(equation(reading)[1] != 0 for reading in readings)


def shows_open(claim, paper):
    if not is_pair_of_lights(paper):
        return False
    one, two = [numbers_of(light) for light in paper]
    if not all(keeps(one, reading) and keeps(two, reading) for reading in claim[1]):
        return False
    return dot(claim[2], one) != dot(claim[2], two)


def flat(rows):
    return [number for row in rows for number in row]


def shows_mixed(claim, paper):
    """The four claims of mixtures and patchworks."""
    word, told, target = claim
    if word in ("mixture", "no mixture"):
        rows, whole = [numbers_of(light) for light in told], numbers_of(target)
    else:
        rows, whole = [flat(rows_of(table)) for table in told], flat(rows_of(target))
    if word in ("mixture", "patchwork"):
        if not are_many(paper, is_fraction, len(told), len(told)) or any(part[0] < 0 for part in paper):
            return False
        weights = [worth(part) for part in paper]
        adds = [sum(weight * row[at] for weight, row in zip(weights, rows)) for at in range(len(whole))] == whole
        return adds and (word == "mixture" or sum(weights) == 1)
    beside = 0
    if word == "no patchwork":
        if type(paper) is not tuple or len(paper) != 2 or not is_number(paper[1]):
            return False
        paper, beside = paper
        if not are_many(paper, lambda row: are_many(row, is_number, 4, 4), 4, 4):
            return False
        paper = tuple(flat(paper))
    elif not are_many(paper, is_number, 4, 4):
        return False
    return min(dot(paper, row) - beside for row in rows) >= 0 and dot(paper, whole) - beside < 0


def shows_no_turn(claim, paper):
    pairs = claim[1]
    if type(paper) is not tuple or len(paper) == 0 or type(paper[0]) is not str:
        return False
    word, at = paper[0], paper[1:]
    if any(not is_number(index) or not 0 <= index < len(pairs) for index in at):
        return False
    befores, afters = [pairs[index][0] for index in at], [pairs[index][1] for index in at]
    if word == "level" and len(at) == 1:
        return numbers_of(befores[0])[0] != numbers_of(afters[0])[0]
    if word == "product" and len(at) == 2 and at[0] <= at[1]:
        one, two = [product(*[numbers_of(light) for light in lights]) for lights in (befores, afters)]
        return one != two
    if word == "hand" and len(at) == 3 and at[0] < at[1] < at[2]:
        one, two = [dot(swing_of(x), upright(swing_of(y), swing_of(z))) for x, y, z in (befores, afters)]
        return one != two
    return False


def numbers_less(claim):
    """The five numbers of the course of the difference, without a common divisor with what they are over."""
    (*numbers, below), (*others, beside) = claim[1:]
    return row_of([Fraction(one, below) - Fraction(two, beside) for one, two in zip(numbers, others)])[:5]


def shows_courses(claim, paper):
    f0, f1, f2, f3, f4 = numbers_less(claim)
    if claim[0] == "brighter":
        if not is_fraction(paper):
            return False
        t = worth(paper)
        a, b, c = [f0, Fraction(f1, 2), t], [Fraction(f1, 2), f2 - 2 * t, Fraction(f3, 2)], [t, Fraction(f3, 2), f4]
        return f0 > 0 and f0 * (f2 - 2 * t) - Fraction(f1 * f1, 4) > 0 and dot(a, upright(b, c)) > 0
    if type(paper) is not tuple or len(paper) == 0 or type(paper[0]) is not str:
        return False
    if paper[0] == "setting" and len(paper) == 2:
        setting = paper[1]
        if not are_many(setting, is_number, 2, 2) or setting == (0, 0):
            return False
        reduced_one = is_fraction(setting) or setting == (1, 0)
        return reduced_one and level_of(claim[1], setting) <= level_of(claim[2], setting)
    if paper[0] != "square" or len(paper) != 3 or not are_many(paper[1], is_number, 3, 3):
        return False
    if not is_fraction(paper[2]) or paper[2][0] <= 0:
        return False
    (g0, g1, g2), part = paper[1], worth(paper[2])
    square = [g0 * g0, 2 * g0 * g1, 2 * g0 * g2 + g1 * g1, 2 * g1 * g2, g2 * g2]
    return [part * number for number in square] == [f0, f1, f2, f3, f4] and g1 * g1 - 4 * g0 * g2 >= 0


def shows_last_level(claim, paper):
    _, stack, light, level = claim
    if type(paper) is not tuple or len(paper) != 2 or not is_light(paper[0]):
        return False
    if not are_many(paper[1], is_number, 5, 5) or paper[1][4] <= 0:
        return False
    mean, lost, rows = numbers_of(paper[0]), numbers_of(paper[1]), rows_of_stack(stack)
    is_rest = less(numbers_of(light), mean) == less(lost, led(rows, lost))
    return is_rest and led(rows, mean) == mean and mean[0] == worth(level)


def shows(claim, paper):
    """Whether a paper shows a claim that is one for the checker."""
    word = claim[0]
    if word in BARE:
        return type(paper) is tuple and len(paper) == 0 and is_so(claim)
    if word in ("unlike", "loses", "fading", "fringes", "sharper"):
        return shows_of_light(claim, paper)
    if word in ("made", "not made"):
        return shows_made(claim, paper)
    if word == "no light":
        return bars_all_lights(claim[1], paper)
    if word == "settled":
        return shows_settled(claim, paper)
    if word == "open":
        return shows_open(claim, paper)
    if word == "no turn":
        return shows_no_turn(claim, paper)
    if word in ("brighter", "not brighter"):
        return shows_courses(claim, paper)
    return shows_last_level(claim, paper) if word == "last level" else shows_mixed(claim, paper)
