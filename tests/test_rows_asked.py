"""alone, row, ends: rows asked by themselves, and the sums of the ring's row."""

import random
import unittest

from helper import ALONE, ENDS, FAR, NO_RING, RING, ask, ask_last, band, leak, mute, quiet_by_matrix, random_model
from helper import random_row, ring_calls, row_call, rows_in, steps_by_fractions, told, value

MILLION = 1000000


class Alone(unittest.TestCase):
    def test_at_the_beginning(self):
        self.assertEqual(ask(ALONE), [[0, 1, -1, -1, -1]])

    def test_the_leak(self):
        for low, awaited in (([2, 1], 1), ([2, -1], 1), ([-2, 1], 1), ([1, 2], 0), ([-1, 2], 0), ([1, 1], 0),
                             ([1, -1], 0), ([-3], 1), ([1, 0, 0], 1), ([5, 3, 0], 1), ([3, 5, 0], 0), ([2, 3, 1], 0),
                             ([6, 1, 2], 1), ([-6, -1, -2], 1), ([100, 0, -100], 0), ([100, 0, 99], 1)):
            self.assertEqual(ask_last(leak([1, 7], low), ALONE), [0, awaited, -1, -1, -1], low)
            self.assertEqual(ask_last(band(1, 0, 5, [1, 7], low), ALONE), [0, 1, -1, awaited, -1], low)

    def test_bands_in_their_order(self):
        calls = [leak([1], [1, 3]), band(2, 1, 2, [1], [2, 1]), band(0, 1, 2, [1], [1, 2])]
        self.assertEqual(ask_last(*calls, ALONE), [0, 0, 0, -1, 1])
        self.assertEqual(ask_last(*calls, band(1, 9, 1, [4], [-7, 0]), ALONE), [0, 0, 0, 1, 1])
        self.assertEqual(ask_last(*calls, mute(2), ALONE), [0, 0, 0, -1, -1])
        self.assertEqual(ask_last(*calls, leak([1], [4]), ALONE), [0, 1, 0, -1, 1])

    def test_no_refusal_where_the_ring_is_not_there(self):
        self.assertEqual(ask_last(*NO_RING, ALONE), [0, 1, 1, -1, -1])

    def test_quiet_alone_is_not_quiet_together(self):
        calls = [leak([0, 1], [1]), band(0, 3, 1, [1], [1])]
        self.assertEqual(ask_last(*calls, ALONE), [0, 1, 1, -1, -1])
        self.assertEqual(ask_last(*calls, [5]), [0, 0, -3, 1])

    def test_by_a_matrix(self):
        source = random.Random(103)
        for trial in range(80):
            model = random_model(source, trial % 4)
            lows = [model.leak[1]] + [model.bands[i][3] if i in model.bands else None for i in range(3)]
            awaited = [-1 if low is None else int(quiet_by_matrix(low)) for low in lows]
            self.assertEqual(ask_last(*model.calls(), ALONE), [0] + awaited)


class Row(unittest.TestCase):
    def test_quiet_rows(self):
        self.assertEqual(ask(row_call([2, -1])), [[0, 1, 2, 2, -1, 1, 1]])
        self.assertEqual(ask(row_call([4, 2, 0, 1])), [[0, 1] + told([[4, 2, 0, 1], [15, 8, -2], [13, 8], [1]])])

    def test_rows_that_are_not_quiet(self):
        self.assertEqual(ask(row_call([1, 3])), [[0, 0, 2, 1, 3]])
        self.assertEqual(ask(row_call([1, -1])), [[0, 0, 2, 1, -1]])
        self.assertEqual(ask(row_call([2, 3, 1])), [[0, 0] + told([[2, 3, 1], [1, 1]])])

    def test_one_number(self):
        for number in (1, -1, 7, MILLION, -MILLION):
            self.assertEqual(ask(row_call([number])), [[0, 1, 1, 1]])

    def test_made_plain_first(self):
        awaited = [0, 1] + told([[6, 1, 2], [8, 1], [1]])
        for row in ([6, 1, 2], [-6, -1, -2], [30, 5, 10], [6, 1, 2, 0, 0, 0], [-12, -2, -4] + [0] * 9):
            self.assertEqual(ask(row_call(row)), [awaited], row)
        self.assertEqual(ask(row_call([5] + [0] * 11)), [[0, 1, 1, 1]])
        self.assertEqual(ask(row_call([-4, 6])), [[0, 0, 2, 2, -3]])

    def test_how_long_it_may_be(self):
        self.assertEqual(ask(row_call([2] + [0] * 10 + [1])), [[0, 1, 12, 2] + [0] * 10 + [1, 1, 1]])
        for size in (0, 13, 14, 220):
            self.assertEqual(ask(row_call([1] * size)), [[-1]], size)
            self.assertEqual(ask(row_call([0] * size)), [[-1]], size)

    def test_the_range_of_its_numbers(self):
        self.assertEqual(ask(row_call([MILLION, -MILLION])), [[0, 0, 2, 1, -1]])
        self.assertEqual(ask(row_call([-MILLION, 999999])), [[0, 1, 2, MILLION, -999999, 1, 1]])
        for number in (MILLION + 1, -MILLION - 1, FAR, -FAR):
            self.assertEqual(ask(row_call([number])), [[-1]])
            self.assertEqual(ask(row_call([1] + [0] * 10 + [number])), [[-1]])

    def test_a_first_number_of_0(self):
        for row in ([0], [0, 1], [0, 0, 0], [0] * 11 + [5]):
            self.assertEqual(ask(row_call(row)), [[-5]])
        for number in (MILLION + 1, -FAR):
            self.assertEqual(ask(row_call([0, number])), [[-1]])

    def test_the_aid_is_not_asked(self):
        for calls in (NO_RING, ring_calls([1, 3]), ring_calls([2, 0, 1])):
            self.assertEqual(ask_last(*calls, row_call([2, -1])), [0, 1, 2, 2, -1, 1, 1])
            self.assertEqual(ask_last(*calls, row_call([0, -1])), [-5])

    def test_by_second_ways(self):
        source = random.Random(107)
        seen = {True: 0, False: 0}
        longest = 0
        for trial in range(300):
            row = random_row(source, source.randint(1, 12), source.choice([3, 100, MILLION // 8]), True)
            row[0] = source.choice([row[0], MILLION, -MILLION, 7, 999983])
            awaited = quiet_by_matrix(row)
            seen[awaited] += 1
            steps = steps_by_fractions(row)
            longest = max(longest, len(steps))
            self.assertEqual(ask(row_call(row)), [[0, int(awaited)] + told(steps)], row)
        self.assertGreater(min(seen.values()), 80)
        self.assertEqual(longest, 12)

    def test_it_tells_of_the_rings_row_what_quiet_and_steps_tell(self):
        for row in ([6, 1, 2], [2, 3, 1], [4, 2, 0, 1], [9, -18, 3, 0]):
            quiet, steps = ask(*ring_calls(row), [5], [6])[-2:]
            self.assertEqual(ask(row_call(row)), [quiet[:2] + steps[1:]])

    def test_its_steps_are_a_proof_just_if_it_is_quiet(self):
        for row in ([6, 1, 2], [2, 3, 1], [4, 2, 0, 1], [1, 1], [7, -3, 2, 2], [2, 4, 2, 1]):
            answer = ask_last(row_call(row))
            checked = ask_last(*ring_calls(row), [7, len(answer) - 2] + answer[2:])
            self.assertEqual(checked, [0, answer[1]])
            self.assertEqual(len(rows_in(answer[2:])[-1]) == 1, answer[1] == 1)


class Ends(unittest.TestCase):
    def test_one_number(self):
        self.assertEqual(ask(ENDS), [[0, 1, 1]])
        self.assertEqual(ask_last(leak([3], [-8]), ENDS), [0, 1, 1])

    def test_several_numbers(self):
        self.assertEqual(ask_last(*ring_calls([2, -1]), ENDS), [0, 1, 3])
        self.assertEqual(ask_last(*ring_calls([6, 1, 2]), ENDS), [0, 9, 7])
        self.assertEqual(ask_last(*ring_calls([5, 7, 11, 20]), ENDS), [0, 43, -11])

    def test_made_plain_first(self):
        self.assertEqual(ask_last(*ring_calls([12, 2, 4, 0]), ENDS), [0, 9, 7])
        self.assertEqual(ask_last(*ring_calls([-6, -1, -2]), ENDS), [0, 9, 7])
        self.assertEqual(ask_last(*ring_calls([-4, 6]), ENDS), [0, -1, 5])

    def test_sums_of_0(self):
        self.assertEqual(ask_last(*ring_calls([1, 0, -1]), ENDS), [0, 0, 0])

    def test_the_ring_is_not_there(self):
        self.assertEqual(ask_last(*NO_RING, ENDS), [-5])

    def test_they_are_values_of_the_row(self):
        source = random.Random(109)
        for trial in range(80):
            model = random_model(source, trial % 4)
            if model.ring_value(0) != 0:
                row = model.ring_row()
                ends, ring = ask(*model.calls(), ENDS, RING)[-2:]
                self.assertEqual(ends, [0, value(row, 1), value(row, -1)])
                self.assertEqual(ring[1:], row)

    def test_both_are_above_0_if_the_row_is_quiet(self):
        source = random.Random(113)
        for trial in range(80):
            calls = random_model(source, trial % 4).calls()
            quiet, ends = ask(*calls, [5], ENDS)[-2:]
            if quiet[:2] == [0, 1]:
                self.assertGreater(min(ends[1:]), 0)


if __name__ == "__main__":
    unittest.main()
