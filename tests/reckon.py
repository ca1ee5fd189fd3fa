"""What the document's points say, reckoned once more with Python's own fractions, for the tests to compare with."""

from fractions import Fraction
from math import gcd, lcm


def worth(pair):
    """The number that a fraction stands for."""
    return Fraction(pair[0], pair[1])


def pair_of(number):
    """The fraction that stands for a number."""
    return (Fraction(number).numerator, Fraction(number).denominator)


def numbers_of(light):
    """The four numbers that a light stands for."""
    return [Fraction(number, light[4]) for number in light[:4]]


def row_of(numbers):
    """Numbers as whole ones over one above 0, reduced."""
    numbers = [Fraction(number) for number in numbers]
    below = lcm(*[number.denominator for number in numbers])
    row = [int(number * below) for number in numbers] + [below]
    return tuple([number // gcd(*row) for number in row])


def table_of_numbers(rows):
    """The table of sixteen numbers."""
    row = row_of([number for line in rows for number in line])
    return (tuple([row[4 * at:4 * at + 4] for at in range(4)]), row[16])


def rows_of(table):
    """The sixteen numbers that a table stands for."""
    return [[Fraction(number, table[1]) for number in row] for row in table[0]]


def dot(row, other):
    return sum(one * two for one, two in zip(row, other))


def led(rows, numbers):
    return [dot(row, numbers) for row in rows]


def multiplied(rows, other):
    return [[dot(row, [line[at] for line in other]) for at in range(len(other))] for row in rows]


def product(one, two):
    """The product of two rows of four numbers."""
    return one[0] * two[0] - one[1] * two[1] - one[2] * two[2] - one[3] * two[3]


def is_light_row(numbers):
    """Whether four numbers are those of a light."""
    return numbers[0] >= 0 and product(numbers, numbers) >= 0


def shares_of_turn(turn):
    """The three columns to which a turn leads (Q, U, V), by products of quaternions."""
    def times(p, q):
        return (
            p[0] * q[0] - p[1] * q[1] - p[2] * q[2] - p[3] * q[3],
            p[0] * q[1] + p[1] * q[0] + p[2] * q[3] - p[3] * q[2],
            p[0] * q[2] + p[2] * q[0] + p[3] * q[1] - p[1] * q[3],
            p[0] * q[3] + p[3] * q[0] + p[1] * q[2] - p[2] * q[1],
        )
    back = (turn[0], -turn[1], -turn[2], -turn[3])
    size = sum(number * number for number in turn)
    columns = []
    for unit in ((0, 1, 0, 0), (0, 0, 1, 0), (0, 0, 0, 1)):
        whole = times(times(turn, unit), back)
        columns.append([Fraction(number, size) for number in whole[1:]])
    return columns


def rows_of_turn(turn):
    """The sixteen numbers of a turner."""
    columns = [[1, 0, 0, 0]] + [[0] + column for column in shares_of_turn(turn)]
    return [[Fraction(column[at]) for column in columns] for at in range(4)]


def rows_of_setting(a, b):
    """The sixteen numbers of a magnet."""
    size = Fraction(a * a + b * b)
    c, s = (b * b - a * a) / size, 2 * a * b / size
    return [[1, 0, 0, 0], [0, c, -s, 0], [0, s, c, 0], [0, 0, 0, 1]]


def rows_of_partial(kind, f, g):
    k = [Fraction(number, kind[3]) for number in kind[:3]]
    a, b = (f * f + g * g) / 2, (f * f - g * g) / 2
    rows = [[a] + [b * number for number in k]]
    for at in range(3):
        rows.append([b * k[at]] + [(f * g if at == place else 0) + (a - f * g) * k[at] * k[place] for place in range(3)])
    return rows


def diagonal(*numbers):
    return [[numbers[at] if at == place else Fraction(0) for place in range(4)] for at in range(4)]


def rows_of_plate(plate):
    """The sixteen numbers of a plate, as point [13] tells them."""
    word = plate[0]
    if word == "polariser":
        k = [Fraction(1)] + [Fraction(number, plate[1][3]) for number in plate[1][:3]]
        return [[one * two / 2 for two in k] for one in k]
    if word == "partial":
        return rows_of_partial(plate[1], worth(plate[2]), worth(plate[3]))
    if word == "turner":
        return rows_of_turn(plate[1])
    if word == "magnet":
        return rows_of_setting(*plate[1])
    if word == "grey":
        return diagonal(*[worth(plate[1])] * 4)
    if word == "dull":
        return diagonal(Fraction(1), *[worth(plate[1])] * 3)
    if word == "glass":
        return diagonal(1, 1, 1, -1)
    a, b = plate[1]
    back = (a, b) if b == 0 else (-a, b)
    return multiplied(multiplied(rows_of_setting(a, b), rows_of_plate(plate[2])), rows_of_setting(*back))


def rows_of_stack(stack):
    """The sixteen numbers of a stack."""
    rows = diagonal(1, 1, 1, 1)
    for plate in stack:
        rows = multiplied(rows_of_plate(plate), rows)
    return rows


# Matrices and amplitudes: Python's complex numbers are exact here, as their parts are small whole numbers.

def complex_of(gaussian):
    return complex(gaussian[0], gaussian[1])


def complex_matrix(matrix):
    return [[complex_of(one) for one in row] for row in matrix]


def starred(matrix):
    """A matrix turned over and conjugated."""
    return [[matrix[at][place].conjugate() for at in range(len(matrix))] for place in range(len(matrix[0]))]


SPINS = ([[1, 0], [0, 1]], [[1, 0], [0, -1]], [[0, 1], [1, 0]], [[0, -1j], [1j, 0]])


class Exact:
    """A complex number of whole parts, whatever their size."""

    def __init__(self, real, imag):
        self.real = real
        self.imag = imag

    def __add__(self, other):
        return Exact(self.real + int(other.real), self.imag + int(other.imag))

    def __mul__(self, other):
        x, y = int(other.real), int(other.imag)
        return Exact(self.real * x - self.imag * y, self.real * y + self.imag * x)

    __radd__, __rmul__ = __add__, __mul__

    def conjugate(self):
        return Exact(self.real, -self.imag)


def rows_of_matrix(matrix):
    """The sixteen numbers of a matrix, by traces."""
    j = [[Exact(*one) for one in row] for row in matrix]
    rows = []
    for spin in SPINS:
        traces = []
        for other in SPINS:
            whole = multiplied(multiplied(multiplied(spin, j), other), starred(j))
            trace = whole[0][0] + whole[1][1]
            assert trace.imag == 0
            traces.append(Fraction(trace.real, 2))
        rows.append(traces)
    return rows


def companion_entry(rows, at, place):
    """A number of the companion, its two parts, as point [17] tells it: by blocks of blocks."""
    def block(row):
        m0, m1, m2, m3 = row
        return [[(m0 + m1, 0), (m2, m3)], [(m2, -m3), (m0 - m1, 0)]]
    r = [block(row)[at % 2][place % 2] for row in rows]
    if at // 2 == place // 2:
        side = 1 if at // 2 == 0 else -1
        return (r[0][0] + side * r[1][0], r[0][1] + side * r[1][1])
    side = -1 if at // 2 == 0 else 1
    # i times (x, y) is (-y, x).
    return (r[2][0] - side * r[3][1], r[2][1] + side * r[3][0])


def weight_of(rows, row):
    """The weight of a row of four Gaussians under the companion of sixteen numbers."""
    total, rest = Fraction(0), Fraction(0)
    for at in range(4):
        for place in range(4):
            (x, y), (p, q), (r, s) = row[at], companion_entry(rows, at, place), row[place]
            # (x - i y) (p + i q) (r + i s)
            u, v = x * p + y * q, x * q - y * p
            total += u * r - v * s
            rest += u * s + v * r
    assert rest == 0
    return total


def sum_of_parts(parts):
    """The sixteen numbers of matrices times fractions."""
    whole = diagonal(0, 0, 0, 0)
    for matrix, part in parts:
        rows = rows_of_matrix(matrix)
        whole = [[one + worth(part) * two for one, two in zip(line, row)] for line, row in zip(whole, rows)]
    return whole


def compared_with_root(number, sign, square):
    """-1, 0 or 1, as a number is less than, equal to, greater than sign times the root of a square."""
    def size(value):
        return (value > 0) - (value < 0)
    if sign == 0 or square == 0:
        return size(number)
    if size(number) != sign:
        return size(number) or -sign
    return sign * size(number * number - square)


def compared_with_surd(number, surd):
    """-1, 0 or 1, as a number is less than, equal to, greater than a surd."""
    part, sign, square = surd
    return compared_with_root(number - worth(part), sign, worth(square))


def mixed_rows(tables, weights):
    """The sixteen numbers of tables times weights, added."""
    whole = diagonal(0, 0, 0, 0)
    for table, weight in zip(tables, weights):
        whole = [[one + weight * two for one, two in zip(line, row)] for line, row in zip(whole, rows_of(table))]
    return whole


def rank(rows):
    """The dimension of the space that rows span, by steps of Gauss."""
    rows, found = [[Fraction(number) for number in row] for row in rows], 0
    for at in range(len(rows[0]) if rows else 0):
        pivot = next((row for row in rows[found:] if row[at] != 0), None)
        if pivot is not None:
            rows.remove(pivot)
            rows = [[one - row[at] / pivot[at] * two for one, two in zip(row, pivot)] for row in rows]
            rows.insert(0, pivot)
            found += 1
    return found


def level_of(course, setting):
    """The level of a course at a setting, as point [25] tells it."""
    f0, f1, f2, f3, f4, d = course
    a, b = setting
    above = f0 * b ** 4 + f1 * a * b ** 3 + f2 * a ** 2 * b ** 2 + f3 * a ** 3 * b + f4 * a ** 4
    return Fraction(above, d * (a * a + b * b) ** 2)


def double_of(setting):
    """The cosine and the sine of twice the angle of a setting."""
    a, b = setting
    return Fraction(b * b - a * a, a * a + b * b), Fraction(2 * a * b, a * a + b * b)


def swing_of(light):
    """The last three numbers that a light stands for."""
    return numbers_of(light)[1:]


def upright(one, two):
    """The cross product of two triples."""
    return [one[1] * two[2] - one[2] * two[1], one[2] * two[0] - one[0] * two[2], one[0] * two[1] - one[1] * two[0]]


def equation(reading):
    """The row and the number of a reading, as point [44] tells them."""
    first, part = [Fraction(number) for number in reading[1]], worth(reading[-1])
    if reading[0] == "level":
        return first, part
    other = [Fraction(number) for number in reading[2]]
    if reading[0] == "ratio":
        return [one - part * two for one, two in zip(first, other)], Fraction(0)
    return [one - two for one, two in zip(first, other)], part


def keeps(numbers, reading):
    """Whether four numbers keep a reading."""
    row, number = equation(reading)
    return dot(row, numbers) == number


def weighed_equation(readings, weights):
    """The weighed sum of the rows and of the numbers of readings."""
    row, number = [Fraction(0)] * 4, Fraction(0)
    for reading, weight in zip(readings, weights):
        own, beside = equation(reading)
        row = [one + weight * two for one, two in zip(row, own)]
        number += weight * beside
    return row, number


def opposed(row):
    """A row with the signs of its last three numbers changed."""
    return [row[0], -row[1], -row[2], -row[3]]


def is_look_row(row):
    """Whether four numbers are those of a look, but for a factor above 0."""
    return any(row) and is_light_row(row)


def bars_all_lights(readings, paper):
    """Whether a paper shows that no light fits some readings, word by word as point [47] tells it."""
    if type(paper) is not tuple or len(paper) < 2 or type(paper[0]) is not str or type(paper[1]) is not tuple:
        return False
    if len(paper[1]) != len(readings) or any(type(weight) is not int for weight in paper[1]):
        return False
    row, number = weighed_equation(readings, paper[1])
    if paper[0] == "equations" and len(paper) == 2:
        return not any(row) and number != 0
    if paper[0] == "look" and len(paper) == 2:
        return is_look_row(row) and number < 0
    if paper[0] != "edge" or len(paper) != 3 or type(paper[2]) is not int or not 0 <= paper[2] < len(readings):
        return False
    own, beside = equation(readings[paper[2]])
    return is_look_row(row) and product(row, row) == 0 and number == 0 and beside != 0 and dot(own, opposed(row)) == 0
