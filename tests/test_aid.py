"""leak, band, gain, mute, ring: what the bands make together, and the ring's row."""

import random
import unittest

from helper import LOUD, NO_RING, QUIET, RING, STEPS, ask, ask_last, band, check, gain, leak, mute, play, random_model
from helper import ring_calls


class Beginning(unittest.TestCase):
    def test_without_any_calls_before(self):
        self.assertEqual(ask(RING), [[0, 1]])
        self.assertEqual(ask(QUIET), [[0, 1]])
        self.assertEqual(ask(STEPS), [[0, 1, 1]])
        self.assertEqual(ask(check([1, 1])), [[0, 1]])
        self.assertEqual(ask(LOUD), [[0, 0, 1]])
        self.assertEqual(ask(play([5, -7])), [[0, 0, 1, 0, 1]])

    def test_there_are_no_bands(self):
        for i in range(3):
            self.assertEqual(ask(mute(i), gain(i, 1, 1)), [[-3], [-3]])

    def test_a_leak_without_bands_rings_by_its_lower_row(self):
        self.assertEqual(ask_last(leak([7, 8], [4, 2, -6]), RING), [0, 2, 1, -3])
        self.assertEqual(ask_last(leak([7, 8], [4, 2, -6]), LOUD), [-8])
        self.assertEqual(ask_last(leak([7, 8], [4, 2, -6]), play([3])), [0, 0, 1])


class Setting(unittest.TestCase):
    def test_all_four_answer_0_alone(self):
        self.assertEqual(ask(leak([1], [1]), band(1, 1, 2, [1], [1]), gain(1, 3, 4), mute(1)), [[0]] * 4)

    def test_one_band(self):
        # U = 1, W = 2, so the ring's row is 2 2 - 1 1 = 3, and 2 is heard over 3.
        calls = [leak([1], [2]), band(0, 1, 2, [1], [1])]
        self.assertEqual(ask_last(*calls, RING), [0, 1])
        self.assertEqual(ask_last(*calls, play([1])), [0, 2, 3])

    def test_one_band_with_a_leak_of_several_numbers(self):
        # U = 3 (1 2) = 3 6 and W = 2 (5 1) = 10 2; (1 0 4)(10 2) = 10 2 40 8; (0 1 -1 2)(3 6) = 0 3 3 0 12.
        calls = [leak([0, 1, -1, 2], [1, 0, 4]), band(2, 3, 2, [1, 2], [5, 1]), RING]
        self.assertEqual(ask_last(*calls), [0, 10, -1, 37, 8, -12])

    def test_two_bands(self):
        # U = 1 (1) 3 (2 1) + 2 (0 1) 2 (3) = 6 3 + 0 12 = 6 15, W = 2 (3) 3 (2 1) = 36 18;
        # the leak is 1 over 1 and one later: 36 18 - 0 6 15 = 36 12 -15.
        calls = [leak([0, 1], [1]), band(0, 1, 2, [1], [3]), band(1, 2, 3, [0, 1], [2, 1])]
        self.assertEqual(ask_last(*calls, RING), [0, 12, 4, -5])
        self.assertEqual(ask_last(*calls, play([1])), [0, 1, 6])

    def test_three_bands(self):
        # 1/2 + 1/3 + 1/6 of the sound one later: U = 0 36, W = 36, the ring's row 2 36 - 0 36.
        calls = [leak([1], [2]), band(2, 1, 2, [0, 1], [1]), band(0, 1, 3, [0, 1], [1]), band(1, 1, 6, [0, 1], [1])]
        self.assertEqual(ask_last(*calls, RING), [0, 2, -1])
        self.assertEqual(ask_last(*calls, play([6, 0, 0])), [0, 0, 1, 6, 1, 3, 1])

    def test_a_band_in_the_place_of_an_earlier_one(self):
        first = band(1, 1, 2, [1, 1], [3, 1])
        second = band(1, 5, 7, [2], [1, 0, 4])
        self.assertEqual(ask_last(leak([1], [9]), first, second, RING), ask_last(leak([1], [9]), second, RING))
        self.assertEqual(ask_last(leak([1], [9]), second, RING), [0, 53, 0, 252])

    def test_a_leak_in_the_place_of_an_earlier_one(self):
        self.assertEqual(ask_last(leak([1, 2], [3, 4]), leak([0], [5, 2]), RING), [0, 5, 2])

    def test_gains_that_are_not_in_lowest_terms(self):
        for n, d in ((500, 1000), (3, 6), (1, 2)):
            calls = [leak([0, 1], [1]), band(0, n, d, [1], [1])]
            self.assertEqual(ask_last(*calls, RING), [0, 2, -1])
            self.assertEqual(ask_last(leak([0, 1], [1]), band(0, 1, 1, [1], [1]), gain(0, n, d), RING), [0, 2, -1])
            self.assertEqual(ask_last(*calls, play([1, 0])), [0, 1, 2, 1, 4])

    def test_a_gain_of_0_leaves_the_lower_row(self):
        calls = [leak([1], [1]), band(0, 0, 5, [1], [2, 6])]
        self.assertEqual(ask_last(*calls, RING), [0, 1, 3])
        self.assertEqual(ask_last(*calls, QUIET), [0, 0, 3, 1])
        self.assertEqual(ask_last(*calls, play([4])), [0, 0, 1])

    def test_a_gain_below_0(self):
        calls = [leak([0, 1], [1]), band(0, -1, 3, [1], [1])]
        self.assertEqual(ask_last(*calls, RING), [0, 3, 1])
        self.assertEqual(ask_last(*calls, play([1, 0, 0])), [0, -1, 3, 1, 9, -1, 27])

    def test_gain_changes_the_gain_alone(self):
        calls = [leak([0, 1], [1]), band(0, 9, 2, [2, 1], [1, 3]), gain(0, -2, 8)]
        self.assertEqual(ask_last(*calls, RING), ask_last(leak([0, 1], [1]), band(0, -1, 4, [2, 1], [1, 3]), RING))
        self.assertEqual(ask_last(*calls, RING), [0, 4, 14, 1])

    def test_muted_bands(self):
        kept = [leak([0, 1], [1]), band(2, 1, 3, [1], [1, 2])]
        calls = kept + [band(0, 1, 2, [5], [7]), band(1, 1, 2, [5], [7, 1]), mute(0), mute(1)]
        self.assertEqual(ask_last(*calls, RING), ask_last(*kept, RING))
        self.assertEqual(ask_last(*calls, mute(2), RING), [0, 1])
        self.assertEqual(ask_last(*calls, mute(0)), [-3])
        self.assertEqual(ask_last(*calls, gain(1, 1, 1)), [-3])
        self.assertEqual(ask_last(*calls, mute(2), mute(2)), [-3])

    def test_a_muted_band_may_come_back(self):
        calls = [leak([0, 1], [1]), band(0, 1, 2, [1], [1]), mute(0), band(0, 1, 5, [1], [1]), RING]
        self.assertEqual(ask_last(*calls), [0, 5, -1])

    def test_the_widest_numbers_are_taken(self):
        for far in (-100, 100):
            self.assertEqual(ask_last(leak([far] * 4, [far] * 3)), [0])
            self.assertEqual(ask_last(band(2, 10 * far, 1000, [far] * 4, [far] * 3)), [0])
            self.assertEqual(ask_last(band(0, 10 * far, 1, [0], [far]), gain(0, -10 * far, 1)), [0])


class Ring(unittest.TestCase):
    def test_a_common_divisor_is_taken_out(self):
        self.assertEqual(ask_last(*ring_calls([12, -18, 6, 30]), RING), [0, 2, -3, 1, 5])

    def test_zeros_at_the_end_are_taken_off_and_others_stay(self):
        self.assertEqual(ask_last(*ring_calls([5, 0, 3, 0]), RING), [0, 5, 0, 3])
        self.assertEqual(ask_last(leak([0], [5, 0, 0]), RING), [0, 1])

    def test_a_first_number_below_0_turns_the_row_round(self):
        self.assertEqual(ask_last(*ring_calls([-4, 2, 0, -6]), RING), [0, 2, -1, 0, 3])
        self.assertEqual(ask_last(leak([0], [-3]), RING), [0, 1])

    def test_all_of_these_together(self):
        self.assertEqual(ask_last(leak([0], [-10, 25, 0]), RING), [0, 2, -5])

    def test_the_ring_that_is_not_there(self):
        calls = [RING, QUIET, STEPS, check([]), check([1, 1]), LOUD, play([]), play([1])]
        self.assertEqual(ask(*NO_RING, *calls)[2:], [[-5]] * 8)

    def test_a_ring_that_is_not_there_only_for_its_first_number(self):
        calls = [leak([2, 7, 1], [3, 1]), band(0, 3, 2, [1, 5], [1, 9])]
        for call in (RING, QUIET, STEPS, LOUD):
            self.assertEqual(ask_last(*calls, call), [-5])

    def test_a_ring_comes_back(self):
        self.assertEqual(ask_last(*NO_RING, gain(0, 1, 2), RING), [0, 1])
        self.assertEqual(ask_last(*NO_RING, mute(0), RING), [0, 1])

    def test_by_values_at_many_places(self):
        source = random.Random(11)
        there = 0
        for trial in range(120):
            model = random_model(source, trial % 4)
            if model.ring_value(0) == 0:
                self.assertEqual(ask_last(*model.calls(), RING), [-5])
            else:
                there += 1
                self.assertEqual(ask_last(*model.calls(), RING), [0] + model.ring_row())
        self.assertGreater(there, 100)


if __name__ == "__main__":
    unittest.main()
