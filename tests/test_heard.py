"""loud and play: what's heard in all."""

import random
import unittest
from fractions import Fraction

from helper import LOUD, NO_RING, ask_last, band, leak, loud_by_equations, pairs_in, play, quiet_by_matrix
from helper import random_model, ring_calls, spread


class Loud(unittest.TestCase):
    def test_an_echo_that_halves(self):
        # 1, 1/2, 1/4, ..: the squares are 1, 1/4, 1/16, ..
        self.assertEqual(ask_last(*ring_calls([2, -1]), LOUD), [0, 1, 3])
        self.assertEqual(ask_last(leak([0, 1], [2]), band(0, 1, 1, [1], [1]), LOUD), [0, 4, 3])

    def test_the_upper_row_longer_than_the_lower_one(self):
        self.assertEqual(ask_last(band(0, 1, 1, [1, 2, 3, 4], [1]), LOUD), [0, 30, 1])
        self.assertEqual(ask_last(band(0, -1, 2, [1, 2, 3, 4], [3]), LOUD), [0, 5, 6])
        # Three zeros, then 2, 1, 1/2, ..: 4 times 4/3.
        self.assertEqual(ask_last(band(0, 1, 1, [0, 0, 0, 4], [2, -1]), LOUD), [0, 16, 3])

    def test_the_upper_row_as_long_as_the_lower_one(self):
        # 1 + z over 1 - z/2: 1, 3/2, 3/4, ..: 1 + 9/4 times 4/3.
        self.assertEqual(ask_last(band(0, 2, 1, [1, 1], [2, -1]), LOUD), [0, 4, 1])

    def test_the_upper_row_shorter_than_the_lower_one(self):
        # 2 over 2 0 1: 1, 0, -1/2, 0, 1/4, ..
        self.assertEqual(ask_last(band(0, 2, 1, [1], [2, 0, 1]), LOUD), [0, 4, 3])

    def test_nothing_heard(self):
        self.assertEqual(ask_last(band(0, 0, 1, [1], [2, 1]), LOUD), [0, 0, 1])
        self.assertEqual(ask_last(band(0, 1, 1, [0, 0], [2, 1]), LOUD), [0, 0, 1])

    def test_the_ring_is_not_quiet(self):
        for row in ([1, 2], [1, -1], [2, 3, 1], [1, 0, 0, 5]):
            self.assertEqual(ask_last(*ring_calls(row), LOUD), [-8])
        # Neither nothing heard nor what's common to both rows makes it quiet.
        self.assertEqual(ask_last(leak([0], [1, 2]), LOUD), [-8])
        self.assertEqual(ask_last(band(0, 1, 1, [1, 2], [1, 2]), LOUD), [-8])

    def test_the_ring_is_not_there(self):
        self.assertEqual(ask_last(*NO_RING, LOUD), [-5])

    def test_by_equations(self):
        source = random.Random(41)
        quiet = 0
        for trial in range(200):
            model = random_model(source, trial % 4)
            if model.ring_value(0) == 0:
                self.assertEqual(ask_last(*model.calls(), LOUD), [-5])
            elif quiet_by_matrix(model.ring_row()):
                quiet += 1
                awaited = loud_by_equations(*model.heard_rows())
                self.assertEqual(ask_last(*model.calls(), LOUD), [0] + spread([awaited]))
            else:
                self.assertEqual(ask_last(*model.calls(), LOUD), [-8])
        self.assertGreater(quiet, 60)

    def test_the_squares_come_near_and_never_pass(self):
        source = random.Random(43)
        near = 0
        for trial in range(60):
            model = random_model(source, 1 + trial % 3)
            answer = ask_last(*model.calls(), LOUD)
            if answer[0] == 0:
                loud = Fraction(*answer[1:])
                clicked = ask_last(*model.calls(), play([1] + [0] * 15))
                heard = sum(each * each for each in pairs_in(clicked[1:]))
                self.assertLessEqual(heard, loud)
                near += 100 * (loud - heard) <= loud
        self.assertGreater(near, 15)


class Play(unittest.TestCase):
    def test_no_inputs(self):
        self.assertEqual(ask_last(*ring_calls([2, -1]), play([])), [0])

    def test_sixteen_inputs(self):
        answer = ask_last(*ring_calls([2, -1]), play([1] + [0] * 15))
        self.assertEqual(answer, [0] + spread([Fraction(1, 2 ** (k + 1)) for k in range(16)]))

    def test_seventeen_inputs(self):
        self.assertEqual(ask_last(*ring_calls([2, -1]), play([0] * 17)), [-1])
        self.assertEqual(ask_last(*NO_RING, play([0] * 17)), [-1])

    def test_the_range_of_inputs(self):
        calls = [band(0, 1, 7, [1], [1])]
        self.assertEqual(ask_last(*calls, play([1000, -1000])), [0, 1000, 7, -1000, 7])
        self.assertEqual(ask_last(*calls, play([1001])), [-1])
        self.assertEqual(ask_last(*calls, play([0, -1001])), [-1])

    def test_fractions_below_0_and_0(self):
        # y = x - y(-1) / 3 - ..: of 3, 1, 0, -4: 3, 0, 0, -4; then 4/3.
        self.assertEqual(ask_last(band(0, 1, 1, [3], [3, 1]), play([3, 1, 0, -4, 0])),
                         [0, 3, 1, 0, 1, 0, 1, -4, 1, 4, 3])

    def test_a_first_number_below_0(self):
        # -2 y = x - y(-1).
        self.assertEqual(ask_last(*ring_calls([-2, 1]), play([1, 0, 4])), [0, -1, 2, -1, 4, -17, 8])

    def test_what_is_not_quiet_is_played_too(self):
        self.assertEqual(ask_last(*ring_calls([1, -3]), play([1, 0, 0])), [0, 1, 1, 3, 1, 9, 1])

    def test_the_ring_is_not_there(self):
        self.assertEqual(ask_last(*NO_RING, play([1])), [-5])
        self.assertEqual(ask_last(*NO_RING, play([])), [-5])

    def test_sample_by_sample(self):
        source = random.Random(47)
        there = 0
        for trial in range(150):
            model = random_model(source, trial % 4)
            inputs = [source.randint(-1000, 1000) for k in range(trial % 17)]
            if model.ring_value(0) != 0:
                there += 1
                self.assertEqual(ask_last(*model.calls(), play(inputs)), [0] + spread(model.play(inputs)))
        self.assertGreater(there, 120)


if __name__ == "__main__":
    unittest.main()
