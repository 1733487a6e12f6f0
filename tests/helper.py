"""Writes calls as lists of numbers, takes answers apart, and works answers out by a second way."""

from fractions import Fraction
from math import gcd, lcm

from quietaids.aids import answers

FAR = 1000000000000000000
RING = [4]
QUIET = [5]
STEPS = [6]
LOUD = [8]
ALONE = [12]
ENDS = [14]
TOLD = [17]


def listed(numbers):
    return [len(numbers)] + list(numbers)


def leak(up, low):
    return [0] + listed(up) + listed(low)


def band(i, n, d, up, low):
    return [1, i, n, d] + listed(up) + listed(low)


def gain(i, n, d):
    return [2, i, n, d]


def mute(i):
    return [3, i]


def check(numbers):
    return [7] + listed(numbers)


def play(inputs):
    return [9] + listed(inputs)


def freed(n, beginning):
    return [10, n] + listed(beginning)


def volume(d, m):
    return [11, d, m]


def row_call(numbers):
    return [13] + listed(numbers)


def later(i, k):
    return [15, i, k]


def turn(i):
    return [16, i]


def click(n):
    return [18, n]


def quiet_at(n, d):
    return [19, n, d]


# For each call its answer, as a list.
def ask(*calls):
    handed_in = [number for call in calls for number in call]
    given = answers(handed_in)
    taken = []
    place = 0
    while place < len(given):
        taken.append(given[place + 1:place + 1 + given[place]])
        place += 1 + given[place]
    if place != len(given) or len(taken) != len(calls):
        raise AssertionError("not one answer for each call: " + repr(given))
    return taken


def ask_last(*calls):
    return ask(*calls)[-1]


# Two calls that make any row of one to four numbers within -99 to 99, its first not 0, the ring's row.
def ring_calls(row):
    up = [-number for number in row]
    up[0] += 1
    return [leak(up, [1]), band(0, 1, 1, [1], [1])]


NO_RING = [leak([1], [1]), band(0, 1, 1, [1], [1])]


# A list of numbers that tells rows, each behind how many numbers it has.
def told(rows):
    return [number for row in rows for number in listed(row)]


def rows_in(numbers):
    rows = []
    place = 0
    while place < len(numbers):
        rows.append(numbers[place + 1:place + 1 + numbers[place]])
        place += 1 + numbers[place]
    return rows


def pairs_in(numbers):
    return [Fraction(numbers[k], numbers[k + 1]) for k in range(0, len(numbers), 2)]


def spread(fractions):
    return [number for each in fractions for number in (each.numerator, each.denominator)]


# A model of the aid that is kept apart from the program: a leak and bands as plain values.
class Model:
    def __init__(self):
        self.leak = ([0], [1])
        self.bands = {}

    def calls(self):
        made = [leak(*self.leak)]
        for i in sorted(self.bands):
            n, d, up, low = self.bands[i]
            made.append(band(i, n, d, up, low))
        return made

    # Sample by sample, without any rows of the whole: each band and the leak goes on by itself.
    def play(self, inputs):
        filters = [(Fraction(n, d), up, low) for n, d, up, low in self.bands.values()]
        outs = [[] for each in filters]
        at_microphone, leaked, heard = [], [], []
        for x in inputs:
            past_bands = sum((f[0] * past(f[1], f[2], at_microphone, out) for f, out in zip(filters, outs)), Fraction(0))
            direct = sum((f[0] * Fraction(f[1][0], f[2][0]) for f in filters), Fraction(0))
            past_leak = past(*self.leak, heard, leaked)
            direct_leak = Fraction(self.leak[0][0], self.leak[1][0])
            # y = past_bands + direct m and m = x + past_leak + direct_leak y
            y = (past_bands + direct * (x + past_leak)) / (1 - direct * direct_leak)
            m = x + past_leak + direct_leak * y
            for f, out in zip(filters, outs):
                out.append(past(f[1], f[2], at_microphone, out) + Fraction(f[1][0], f[2][0]) * m)
            leaked.append(past_leak + direct_leak * y)
            at_microphone.append(m)
            heard.append(y)
        return heard

    # The ring's row by values at many places: the rows are gone through as functions of z.
    def ring_row(self):
        return plain(interpolated(self.ring_value, 11))

    def heard_rows(self):
        return interpolated(self.upper_value, 11), interpolated(self.ring_value, 11)

    # The same aid with all its gains times the volume.
    def at_volume(self, v):
        other = Model()
        other.leak = self.leak
        for i, (n, d, up, low) in self.bands.items():
            g = Fraction(n, d) * v
            other.bands[i] = (g.numerator, g.denominator, up, low)
        return other

    def is_quiet_at(self, v):
        there = self.at_volume(v)
        return there.ring_value(0) != 0 and quiet_by_matrix(there.ring_row())

    def together_value(self, z):
        gains = [(Fraction(n, d), up, low) for n, d, up, low in self.bands.values()]
        bottom = Fraction(1)
        for g, up, low in gains:
            bottom *= g.denominator * value(low, z)
        top = Fraction(0)
        for k, (g, up, low) in enumerate(gains):
            term = g.numerator * value(up, z)
            for j, (h, other_up, other_low) in enumerate(gains):
                if j != k:
                    term *= h.denominator * value(other_low, z)
            top += term
        return top, bottom

    def ring_value(self, z):
        top, bottom = self.together_value(z)
        return value(self.leak[1], z) * bottom - value(self.leak[0], z) * top

    def upper_value(self, z):
        return value(self.leak[1], z) * self.together_value(z)[0]


def value(row, z):
    return sum((number * z ** k for k, number in enumerate(row)), Fraction(0))


# What a filter answers next, but for what comes of the input at that very moment.
def past(up, low, inputs, outputs):
    total = Fraction(0)
    for k in range(1, len(up)):
        if k <= len(inputs):
            total += up[k] * inputs[-k]
    for k in range(1, len(low)):
        if k <= len(outputs):
            total -= low[k] * outputs[-k]
    return total / low[0]


# The row of `size` numbers whose values are those of the function, by divided differences.
def interpolated(function, size):
    places = [Fraction(k) for k in range(size)]
    table = [function(z) for z in places]
    for depth in range(1, size):
        for k in range(size - 1, depth - 1, -1):
            table[k] = (table[k] - table[k - 1]) / (places[k] - places[k - depth])
    row = [Fraction(0)]
    for k in range(size - 1, -1, -1):
        row = [a - places[k] * b for a, b in zip([Fraction(0)] + row, row + [Fraction(0)])]
        row[0] += table[k]
    return row[:size]


def plain(row):
    row = [Fraction(number) for number in row]
    while row and row[-1] == 0:
        row.pop()
    common = lcm(*[number.denominator for number in row])
    row = [int(number * common) for number in row]
    divisor = gcd(*row)
    if row[0] < 0:
        divisor = -divisor
    return [number // divisor for number in row]


# By a matrix instead of steps: the row is quiet just if L L' - M M' is positive definite, with L and M
# the lower triangles of its numbers and of its numbers in the other order.
def quiet_by_matrix(row):
    n = len(row) - 1
    matrix = [[Fraction(0)] * n for k in range(n)]
    for i in range(n):
        for j in range(n):
            for k in range(min(i, j) + 1):
                matrix[i][j] += row[i - k] * row[j - k] - row[n - i + k] * row[n - j + k]
    for k in range(n):
        if matrix[k][k] <= 0:
            return False
        for i in range(k + 1, n):
            factor = matrix[i][k] / matrix[k][k]
            matrix[i] = [a - factor * b for a, b in zip(matrix[i], matrix[k])]
    return True


# By equations instead of steps: with C such that C(z) A(1/z) + C(1/z) A(z) = B(z) B(1/z), all squares of
# B / A come to 2 c0 / a0.
def loud_by_equations(upper, lower):
    n = max(len(upper), len(lower)) - 1
    a = [Fraction(x) for x in lower] + [Fraction(0)] * (n + 1 - len(lower))
    b = [Fraction(x) for x in upper] + [Fraction(0)] * (n + 1 - len(upper))
    matrix = []
    for k in range(n + 1):
        line = [Fraction(0)] * (n + 1)
        for j in range(n + 1):
            if j - k >= 0:
                line[j] += a[j - k]
            if j + k <= n:
                line[j] += a[j + k]
        matrix.append(line + [sum((b[j] * b[j + k] for j in range(n + 1 - k)), Fraction(0))])
    return 2 * solved(matrix)[0] / a[0]


def solved(matrix):
    size = len(matrix)
    for k in range(size):
        pivot = next(i for i in range(k, size) if matrix[i][k] != 0)
        matrix[k], matrix[pivot] = matrix[pivot], matrix[k]
        matrix[k] = [number / matrix[k][k] for number in matrix[k]]
        for i in range(size):
            if i != k:
                matrix[i] = [a - matrix[i][k] * b for a, b in zip(matrix[i], matrix[k])]
    return [line[-1] for line in matrix]


# One answer behind another, from those before it; the beginning is y(-1), y(-2), ..
def let_go(row, beginning, how_many):
    heard = [Fraction(y) for y in reversed(beginning)]
    for t in range(how_many):
        heard.append(-sum((row[i] * heard[-i] for i in range(1, len(row))), Fraction(0)) / row[0])
    return heard[len(beginning):]


# By equations again, with the upper row taken from what follows, not from what was told.
def squares_let_go(row, beginning):
    n = len(row) - 1
    following = let_go(row, beginning, n)
    upper = [sum((row[i] * following[t - i] for i in range(t + 1)), Fraction(0)) for t in range(n)]
    return loud_by_equations(upper + [0], row)


# The told steps by fractions and one name for each number, not made whole on the way.
def steps_by_fractions(row):
    rows = [plain(row)]
    current = [Fraction(x, rows[0][0]) for x in rows[0]]
    while len(current) > 1 and abs(current[-1]) < 1:
        k = current[-1]
        turned = current[::-1]
        current = [(x - k * y) / (1 - k * k) for x, y in zip(current, turned)][:-1]
        while current[-1] == 0:
            current.pop()
        rows.append(plain(current))
    return rows


def without_end_zeros(row):
    row = list(row)
    while row and row[-1] == 0:
        row.pop()
    return row


def alike(one, other):
    one, other = without_end_zeros(one), without_end_zeros(other)
    if not one or len(one) != len(other):
        return False
    where = next(k for k in range(len(one)) if one[k] != 0)
    factor = Fraction(other[where], one[where])
    return factor > 0 and all(factor * a == b for a, b in zip(one, other))


# Row by row, as the words tell it, and without making any row plain.
def proof_by_words(rows, row):
    if not rows or not alike(rows[0], row if row[0] > 0 else [-number for number in row]):
        return False
    for before, after in zip(rows, rows[1:]):
        before = without_end_zeros(before)
        if len(before) < 2 or abs(before[-1]) >= abs(before[0]):
            return False
        step = [before[0] * a - before[-1] * b for a, b in zip(before, reversed(before))][:-1]
        if not alike(after, step):
            return False
    return len(without_end_zeros(rows[-1])) == 1


def random_row(source, size, most, first_not_zero):
    row = [source.randint(-most, most) for k in range(size)]
    if first_not_zero and row[0] == 0:
        row[0] = source.choice([-1, 1]) * source.randint(1, most)
    return row


# `most` small against the first numbers makes quiet rings likely.
def random_model(source, how_many_bands):
    tame = source.random() < 0.6
    most = source.choice([1, 3, 10]) if tame else 100
    model = Model()

    def lower():
        row = random_row(source, source.randint(1, 3), 30 if tame else 100, True)
        if tame:
            row[0] = source.choice([-1, 1]) * source.randint(50, 100)
        return row

    model.leak = (random_row(source, source.randint(1, 4), most, False), lower())
    for i in source.sample(range(3), how_many_bands):
        up = random_row(source, source.randint(1, 4), most, False)
        model.bands[i] = (source.randint(-1000, 1000), source.randint(1, 1000), up, lower())
    return model
