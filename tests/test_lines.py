"""Whole lines of calls of all twenty kinds, right and wrong, answered by a second way too."""

import random
import unittest
from fractions import Fraction

from helper import FAR, Model, ask, let_go, listed, loud_by_equations, proof_by_words, quiet_by_matrix, random_row
from helper import rows_in, spread, squares_let_go, steps_by_fractions, told

MILLION = 1000000
BAND_NUMBER = (0, 2)
GAIN = [(-1000, 1000), (1, 1000)]
FILTER = [(1, 4, 100), (1, 3, 100)]
NUMBERS = {1: [BAND_NUMBER] + GAIN, 2: [BAND_NUMBER] + GAIN, 3: [BAND_NUMBER], 10: [(0, 16)], 11: [(1, 100), (0, 60)],
           15: [BAND_NUMBER, (0, 3)], 16: [BAND_NUMBER], 18: [(1, 16)], 19: [(0, 1000), (1, 1000)]}
LISTS = {0: FILTER, 1: FILTER, 7: [(0, 200, FAR)], 9: [(0, 16, 1000)], 10: [(0, 12, 1000)], 13: [(1, 12, MILLION)]}
WANT_BAND = (2, 3, 15, 16)
WANT_RING = (4, 5, 6, 7, 8, 9, 10, 14, 18)


class Call:
    def __init__(self, number, numbers=(), lists=()):
        self.number = number
        self.numbers = list(numbers)
        self.lists = [list(each) for each in lists]

    def written(self):
        return [self.number] + self.numbers + [number for each in self.lists for number in listed(each)]


def is_within(call):
    for number, (least, most) in zip(call.numbers, NUMBERS.get(call.number, []), strict=True):
        if not least <= number <= most:
            return False
    for row, (shortest, longest, most) in zip(call.lists, LISTS.get(call.number, []), strict=True):
        if not shortest <= len(row) <= longest or any(abs(number) > most for number in row):
            return False
    return call.number > 1 or call.lists[1][0] != 0


# Answers call by call; all refusals that are due are gathered, and the one nearest to 0 is answered.
class Second:
    def __init__(self):
        self.model = Model()

    def answer(self, call):
        refusals = self.refusals(call)
        return [max(refusals)] if refusals else [0] + self.done(call)

    def refusals(self, call):
        if not is_within(call):
            return [-1]
        due = []
        if call.number in WANT_BAND and call.numbers[0] not in self.model.bands:
            due.append(-3)
        elif call.number == 15 and len(self.model.bands[call.numbers[0]][2]) + call.numbers[1] > 4:
            due.append(-6)
        if call.number in WANT_RING and self.model.ring_value(0) == 0 or call.number == 13 and call.lists[0][0] == 0:
            due.append(-5)
        elif call.number == 10 and len(call.lists[0]) != len(self.model.ring_row()) - 1:
            due.append(-6)
        elif call.number == 8 and not quiet_by_matrix(self.model.ring_row()):
            due.append(-8)
        return due

    def done(self, call):
        if call.number in (0, 1, 2, 3, 15, 16):
            self.change(call)
            return []
        if call.number in WANT_RING:
            return self.of_the_ring(call, self.model.ring_row())
        return self.of_the_rest(call)

    def change(self, call):
        bands = self.model.bands
        if call.number == 0:
            self.model.leak = tuple(call.lists)
            return
        i = call.numbers[0]
        n, d, up, low = bands.pop(i, (0, 0, [], []))
        if call.number == 1:
            bands[i] = (*call.numbers[1:], *call.lists)
        elif call.number == 2:
            bands[i] = (*call.numbers[1:], up, low)
        elif call.number == 15:
            bands[i] = (n, d, [0] * call.numbers[1] + up, low)
        elif call.number == 16:
            bands[i] = (n, d, [0 - number for number in up], low)

    def of_the_ring(self, call, row):
        is_quiet = int(quiet_by_matrix(row))
        steps = steps_by_fractions(row)
        if call.number == 4:
            return row
        if call.number == 5:
            return [is_quiet] + spread([Fraction(each[-1], each[0]) for each in steps if len(each) > 1])
        if call.number == 6:
            return told(steps)
        if call.number == 7:
            return [int(proof_by_words(rows_in(call.lists[0]), row))]
        if call.number == 8:
            return spread([loud_by_equations(*self.model.heard_rows())])
        if call.number == 9:
            return spread(self.model.play(call.lists[0]))
        if call.number == 10:
            squares = [squares_let_go(row, call.lists[0])] if is_quiet else []
            return [is_quiet] + spread(squares + let_go(row, call.lists[0], call.numbers[0]))
        if call.number == 14:
            return [sum(row), sum(number * (-1) ** k for k, number in enumerate(row))]
        return spread(self.model.play([1] + [0] * (call.numbers[0] - 1)))

    def of_the_rest(self, call):
        bands = [self.model.bands.get(i) for i in range(3)]
        if call.number == 11:
            d, m = call.numbers
            stop = next(u for u in range(m + 2) if u > m or not self.model.is_quiet_at(Fraction(u, d)))
            return [1, stop - 1] if stop > 0 else [0]
        if call.number == 12:
            leak = int(quiet_by_matrix(self.model.leak[1]))
            return [leak] + [-1 if each is None else int(quiet_by_matrix(each[3])) for each in bands]
        if call.number == 13:
            return [int(quiet_by_matrix(call.lists[0]))] + told(steps_by_fractions(call.lists[0]))
        if call.number == 17:
            shown = told(self.model.leak)
            for each in bands:
                shown += [0] if each is None else [1] + spread([Fraction(each[0], each[1])]) + told(each[2:])
            return shown
        return [int(self.model.is_quiet_at(Fraction(*call.numbers)))]


def upper_row(source, most):
    return random_row(source, source.randint(1, 4), most, False)


def lower_row(source):
    row = random_row(source, source.randint(1, 3), 30, True)
    if source.random() < 0.8:
        row[0] = source.choice([-1, 1]) * source.randint(50, 100)
    return row


# A call that's right as far as its own numbers tell; `second` helps to find proofs and beginnings that fit.
def right_call(source, second, number):
    i = source.randint(0, 2)
    part = [source.randint(-1000, 1000), source.randint(1, 1000)]
    # All ones, here and there, make rings that aren't there.
    if number in (0, 1) and source.random() < 0.25:
        return Call(number, [i, 1, 1] if number else [], [[1] + upper_row(source, 1)[:3], [1]])
    if number in (0, 1):
        filters = [upper_row(source, source.choice([1, 5, 100])), lower_row(source)]
        return Call(number, [i] + part if number else [], filters)
    if number == 7:
        proof = fitting_proof(source, second)
        return Call(7, [], [proof if all(abs(x) <= FAR for x in proof) and len(proof) <= 200 else [1, 1]])
    if number == 9:
        return Call(9, [], [random_row(source, source.randint(0, 16), 1000, False)])
    if number == 10:
        size = len(second.model.ring_row()) - 1 if second.model.ring_value(0) != 0 else 2
        return Call(10, [source.randint(0, 16)], [random_row(source, size, 1000, False)])
    if number == 13:
        return Call(13, [], [random_row(source, source.randint(1, 12), source.choice([2, 50, MILLION]), i != 0)])
    numbers = {2: [i] + part, 3: [i], 11: [source.randint(1, 100), source.randint(0, 8)], 15: [i, source.randint(0, 3)],
               16: [i], 18: [source.randint(1, 16)], 19: [source.randint(0, 1000), source.randint(1, 1000)]}
    return Call(number, numbers.get(number, []))


def fitting_proof(source, second):
    if second.model.ring_value(0) == 0:
        return [1, 1]
    rows = steps_by_fractions(second.model.ring_row())
    return told([[number * source.choice([1, 2]) for number in row] if source.random() < 0.05 else
                 [number * 3 for number in row] + [0] * source.randint(0, 1) for row in rows])


# Sometimes one number is put at or just outside an end of its range, or a list is made longer or shorter.
def meddle(source, call):
    if call.numbers and source.random() < 0.5:
        place = source.randrange(len(call.numbers))
        least, most = NUMBERS[call.number][place]
        # Volumes stay few, for the second way is slow there.
        ends = [least, least - 1, most + 1, FAR, -FAR] + ([most] if call.number != 11 else [])
        call.numbers[place] = source.choice(ends)
    elif call.lists and call.number != 7:
        place = source.randrange(len(call.lists))
        shortest, longest, most = LISTS[call.number][place]
        row = call.lists[place]
        if row and source.random() < 0.5:
            row[source.randrange(len(row))] = source.choice([most, -most, most + 1, -most - 1, 0, FAR, -FAR])
        else:
            size = source.choice([shortest, shortest - 1, longest, longest + 1, len(row) + 1, len(row) - 1, 220])
            call.lists[place] = (row + [1] * 220)[:max(size, 0)]


class Lines(unittest.TestCase):
    def run_lines(self, seed, how_many, longest, how_wrong):
        source = random.Random(seed)
        seen = {}
        for line in range(how_many):
            second = Second()
            calls, awaited = [], []
            for k in range(source.randint(1, longest)):
                number = source.choice([0, 1, 1, 1, 15, 2]) if source.random() < 0.35 else source.randint(0, 19)
                call = right_call(source, second, number)
                if source.random() < how_wrong:
                    meddle(source, call)
                calls.append(call.written())
                awaited.append(second.answer(call))
                seen[(number, min(awaited[-1][0], 0))] = True
            self.assertEqual(ask(*calls), awaited, calls)
        return seen

    def test_right_and_wrong_calls(self):
        seen = self.run_lines(149, 80, 40, 0.25)
        for number in range(20):
            self.assertIn((number, 0), seen)
        for number in list(NUMBERS) + [0, 9, 13]:
            self.assertIn((number, -1), seen)
        for pair in ((2, -3), (3, -3), (15, -3), (16, -3), (10, -6), (15, -6), (8, -8), (13, -5)):
            self.assertIn(pair, seen)
        self.assertGreater(len([number for number in WANT_RING if (number, -5) in seen]), 4)

    def test_right_calls_alone(self):
        self.run_lines(151, 15, 60, 0)


if __name__ == "__main__":
    unittest.main()
