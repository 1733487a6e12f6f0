"""freed: the ring's row let go behind told answers."""

import random
import unittest
from fractions import Fraction

from helper import FAR, LOUD, NO_RING, QUIET, RING, ask, ask_last, band, freed, leak, let_go, pairs_in, quiet_by_matrix
from helper import random_model, ring_calls, solved, spread, squares_let_go


# A leak and three bands whose ring's row has eleven numbers, the most there can be.
LONGEST = [leak([1, 0, 2, 1], [90, 3, 5])] + [band(i, 1, 3 + i, [2, 1, 0, 1], [80 + i, 7, 9]) for i in range(3)]


# A third way, for short rows: the matrix P of the squares, with P = c c' + A' P A and s the told answers.
def squares_by_matrix(row, beginning):
    n = len(row) - 1
    c = [Fraction(-row[k + 1], row[0]) for k in range(n)]
    step = [c] + [[Fraction(int(k == j)) for k in range(n)] for j in range(n - 1)]
    lines = []
    for i in range(n):
        for j in range(n):
            line = [-step[p][i] * step[q][j] for p in range(n) for q in range(n)]
            line[i * n + j] += 1
            lines.append(line + [c[i] * c[j]])
    made = solved(lines)
    return sum((beginning[i] * made[i * n + j] * beginning[j] for i in range(n) for j in range(n)), Fraction(0))


class Following(unittest.TestCase):
    def answered(self, row, n, beginning):
        return ask_last(*ring_calls(row), freed(n, beginning))

    def test_an_answer_that_halves(self):
        # 8, then 4, 2, 1, ..: 16 times 4/3, without the 64 of the one that was told.
        self.assertEqual(self.answered([2, -1], 3, [8]), [0, 1, 64, 3, 4, 1, 2, 1, 1, 1])
        self.assertEqual(self.answered([2, 1], 4, [3]), [0, 1, 3, 1, -3, 2, 3, 4, -3, 8, 3, 16])

    def test_the_latest_answer_stands_first(self):
        # 2 y = - y(-2): of y(-1) = 3, y(-2) = 4 come -2, -3/2, 1, 3/4, ..: (4 + 9/4) times 4/3.
        self.assertEqual(self.answered([2, 0, 1], 4, [3, 4]), [0, 1, 25, 3, -2, 1, -3, 2, 1, 1, 3, 4])
        self.assertEqual(self.answered([2, 0, 1], 2, [4, 3]), [0, 1, 25, 3, -3, 2, -2, 1])
        # 4 y = - 2 y(-1) - y(-3).
        self.assertEqual(self.answered([4, 2, 0, 1], 2, [6, 5, 4])[4:], [-4, 1, 3, 4])

    def test_how_many_follow(self):
        self.assertEqual(self.answered([2, -1], 0, [8]), [0, 1, 64, 3])
        self.assertEqual(self.answered([2, -1], 1, [8]), [0, 1, 64, 3, 4, 1])
        halves = [Fraction(4, 2 ** k) for k in range(16)]
        self.assertEqual(self.answered([2, -1], 16, [8]), [0, 1, 64, 3] + spread(halves))
        for n in (17, -1, FAR, -FAR):
            self.assertEqual(self.answered([2, -1], n, [8]), [-1])

    def test_rows_that_are_not_quiet_have_no_squares(self):
        self.assertEqual(self.answered([1, -3], 3, [5]), [0, 0, 15, 1, 45, 1, 135, 1])
        self.assertEqual(self.answered([1, -3], 0, [5]), [0, 0])
        self.assertEqual(self.answered([1, -1], 2, [-7]), [0, 0, -7, 1, -7, 1])
        self.assertEqual(self.answered([1, -1], 1, [0]), [0, 0, 0, 1])
        self.assertEqual(self.answered([2, 3, 1], 2, [1, 1]), [0, 0, -2, 1, 5, 2])
        # These answers die away, but the row isn't quiet: 2 3 1 is (1 1)(2 1), and -2, 1 go on by halves.
        self.assertEqual(self.answered([2, 3, 1], 3, [1, -2]), [0, 0, -1, 2, 1, 4, -1, 8])

    def test_a_row_of_one_number(self):
        nothing = [0, 1]
        for row in ([7], [1], [-3], [5, 0, 0]):
            self.assertEqual(self.answered(row, 0, []), [0, 1] + nothing)
            self.assertEqual(self.answered(row, 16, []), [0, 1] + nothing * 17)
            self.assertEqual(self.answered(row, 16, [0]), [-6])
        self.assertEqual(ask_last(freed(2, [])), [0, 1] + nothing * 3)

    def test_zeros_told(self):
        self.assertEqual(self.answered([6, 1, 2], 2, [0, 0]), [0, 1, 0, 1, 0, 1, 0, 1])

    def test_a_first_number_below_0(self):
        self.assertEqual(self.answered([-2, 1], 2, [8]), [0, 1, 64, 3, 4, 1, 2, 1])

    def test_the_widest_answers(self):
        self.assertEqual(self.answered([2, -1], 1, [1000]), [0, 1, 1000000, 3, 500, 1])
        self.assertEqual(self.answered([2, -1], 1, [-1000]), [0, 1, 1000000, 3, -500, 1])
        for number in (1001, -1001, FAR, -FAR):
            self.assertEqual(self.answered([2, -1], 1, [number]), [-1])
            self.assertEqual(self.answered([6, 1, 2], 1, [0, number]), [-1])

    def test_by_second_ways(self):
        source = random.Random(67)
        seen = {True: 0, False: 0}
        longest = 0
        for trial in range(160):
            model = random_model(source, trial % 4)
            if model.ring_value(0) == 0:
                continue
            row = model.ring_row()
            beginning = [source.randint(-1000, 1000) for k in row[1:]]
            is_quiet = quiet_by_matrix(row)
            seen[is_quiet] += 1
            longest = max(longest, len(row))
            squares = [squares_let_go(row, beginning)] if is_quiet else []
            awaited = [0, int(is_quiet)] + spread(squares + let_go(row, beginning, trial % 17))
            self.assertEqual(ask_last(*model.calls(), freed(trial % 17, beginning)), awaited)
        self.assertGreater(min(seen.values()), 40)
        self.assertGreater(longest, 9)


class HowManyAreTold(unittest.TestCase):
    def test_one_too_few_and_one_too_many(self):
        for row in ([2, -1], [6, 1, 2], [4, 2, 0, 1], [1, -3], [2, 3, 1]):
            calls = ring_calls(row)
            n = len(row) - 1
            self.assertEqual(ask_last(*calls, freed(1, [1] * n))[0], 0)
            self.assertEqual(ask_last(*calls, freed(1, [1] * (n - 1))), [-6])
            self.assertEqual(ask_last(*calls, freed(1, [1] * (n + 1))), [-6])
            self.assertEqual(ask_last(*calls, freed(0, [0] * (n + 1))), [-6])
        self.assertEqual(ask_last(freed(0, [1])), [-6])

    def test_zeros_at_the_end_are_taken_away_first(self):
        for calls in (ring_calls([4, -2, 0, 0]), ring_calls([-6, 3, 0]), [leak([0], [2, -1, 0])]):
            self.assertEqual(ask_last(*calls, freed(1, [8])), [0, 1, 64, 3, 4, 1])
            for beginning in ([], [8, 0], [8, 0, 0]):
                self.assertEqual(ask_last(*calls, freed(1, beginning)), [-6])

    def test_a_common_divisor_is_taken_away_first(self):
        self.assertEqual(ask_last(*ring_calls([30, 5, 10]), freed(2, [4, -7])),
                         ask_last(*ring_calls([6, 1, 2]), freed(2, [4, -7])))

    def test_the_longest_row(self):
        self.assertEqual(len(ask_last(*LONGEST, RING)), 12)
        self.assertEqual(ask_last(*LONGEST, freed(0, [1] * 10))[0], 0)
        for size in (0, 1, 9, 11, 12):
            self.assertEqual(ask_last(*LONGEST, freed(0, [1] * size)), [-6])

    def test_twelve_and_thirteen(self):
        for calls in (LONGEST, [], ring_calls([2, -1])):
            self.assertEqual(ask_last(*calls, freed(0, [1] * 12)), [-6])
            self.assertEqual(ask_last(*calls, freed(0, [1] * 13)), [-1])
            self.assertEqual(ask_last(*calls, freed(0, [0] * 220)), [-1])

    def test_the_ring_is_not_there(self):
        for size in range(13):
            self.assertEqual(ask_last(*NO_RING, freed(0, [1] * size)), [-5])
        self.assertEqual(ask_last(*NO_RING, freed(17, [])), [-1])
        self.assertEqual(ask_last(*NO_RING, freed(0, [1] * 13)), [-1])
        self.assertEqual(ask_last(*NO_RING, freed(0, [1001])), [-1])

    def test_out_of_range_is_nearer_to_0_than_too_many(self):
        calls = ring_calls([2, -1])
        self.assertEqual(ask_last(*calls, freed(17, [1, 1])), [-1])
        self.assertEqual(ask_last(*calls, freed(1, [1, 1001])), [-1])


class DyingAway(unittest.TestCase):
    def test_the_squares_by_a_matrix(self):
        source = random.Random(71)
        quiet = 0
        for trial in range(150):
            row = [source.randint(2, 9)] + [source.randint(-5, 5) for k in range(2)] + [source.choice([-1, 1])]
            row = row[:1] + row[4 - source.randint(1, 3):]
            beginning = [source.randint(-1000, 1000) for k in row[1:]]
            answer = ask_last(*ring_calls(row), freed(0, beginning))
            if answer[1] == 1:
                quiet += 1
                self.assertEqual(answer[2:], spread([squares_by_matrix(row, beginning)]), (row, beginning))
            else:
                self.assertEqual(answer, [0, 0])
        self.assertGreater(quiet, 50)

    def test_they_come_near_and_never_pass(self):
        source = random.Random(73)
        for row in ([6, 1, 2], [4, 2, 0, 1], [9, -7, 2], [5, 0, 0, 3], [3, 2]):
            beginning = [source.randint(-9, 9) for k in row[1:]]
            answer = ask_last(*ring_calls(row), freed(16, beginning))
            squares = Fraction(answer[2], answer[3])
            self.assertLessEqual(sum(y * y for y in pairs_in(answer[4:])), squares)
            rest = squares - sum(y * y for y in let_go(row, beginning, 150))
            self.assertTrue(0 <= rest * 1000000 < squares, row)

    def test_behind_a_row_that_is_not_quiet_some_beginning_does_not_die_away(self):
        for row in ([1, -3], [1, 1], [2, 3, 1], [1, 0, 1], [2, 4, 2, 1], [2, 7, 1]):
            n = len(row) - 1
            loudest = 0
            for place in range(n):
                beginning = [int(k == place) for k in range(n)]
                answer = ask_last(*ring_calls(row), freed(16, beginning))
                self.assertEqual(answer[1], 0)
                self.assertEqual(answer[2:], spread(let_go(row, beginning, 16)))
                loudest = max(loudest, sum(y * y for y in let_go(row, beginning, 200)))
            self.assertGreater(loudest, 50, row)

    def test_it_agrees_with_quiet_and_leaves_loud_as_it_was(self):
        source = random.Random(79)
        for trial in range(60):
            model = random_model(source, trial % 4)
            if model.ring_value(0) != 0:
                size = len(model.ring_row()) - 1
                told = ask(*model.calls(), LOUD, QUIET, freed(3, [1] * size), LOUD, QUIET)[-5:]
                self.assertEqual(told[:2], told[3:])
                self.assertEqual(told[2][1], told[1][1])


if __name__ == "__main__":
    unittest.main()
