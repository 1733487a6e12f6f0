"""later, turn, told, click: bands changed, the aid told as it stands, and a click's answers."""

import random
import unittest
from fractions import Fraction

from helper import FAR, NO_RING, RING, TOLD, ask, ask_last, band, click, gain, later, leak, mute, pairs_in, play
from helper import random_model, ring_calls, spread, told, turn

LEAK = leak([0, 1, -2], [5, 1])


class Told(unittest.TestCase):
    def test_at_the_beginning(self):
        self.assertEqual(ask(TOLD), [[0, 1, 0, 1, 1, 0, 0, 0]])

    def test_the_leak_and_bands_in_their_order(self):
        calls = [LEAK, band(2, 3, 4, [1, 2, 3, 4], [5, 6, 7]), band(0, -7, 2, [9], [-8])]
        awaited = [0, 3, 0, 1, -2, 2, 5, 1]
        first = [1, -7, 2, 1, 9, 1, -8]
        last = [1, 3, 4, 4, 1, 2, 3, 4, 3, 5, 6, 7]
        self.assertEqual(ask_last(*calls, TOLD), awaited + first + [0] + last)
        self.assertEqual(ask_last(*calls, mute(0), TOLD), awaited + [0, 0] + last)
        self.assertEqual(ask_last(*calls, mute(0), mute(2), TOLD), awaited + [0, 0, 0])
        self.assertEqual(ask_last(*calls, band(1, 1, 1, [1], [1]), TOLD), awaited + first + [1, 1, 1, 1, 1, 1, 1] + last)

    def test_gains_in_lowest_terms(self):
        for n, d, awaited in ((6, 4, [3, 2]), (-500, 1000, [-1, 2]), (0, 1000, [0, 1]), (0, 1, [0, 1]), (7, 1, [7, 1]),
                              (1000, 1, [1000, 1]), (1, 1000, [1, 1000]), (-1000, 1000, [-1, 1])):
            calls = [band(1, n, d, [1], [1])]
            self.assertEqual(ask_last(*calls, TOLD), [0, 1, 0, 1, 1, 0, 1] + awaited + [1, 1, 1, 1, 0])
            self.assertEqual(ask_last(band(1, 9, 8, [1], [1]), gain(1, n, d), TOLD), ask_last(*calls, TOLD))

    def test_rows_as_they_stand(self):
        calls = [leak([0, 0, 0], [-4, 2, 0]), band(0, 1, 1, [0, 6, 0, 0], [3, 0, 0])]
        self.assertEqual(ask_last(*calls, TOLD), [0, 3, 0, 0, 0, 3, -4, 2, 0, 1, 1, 1, 4, 0, 6, 0, 0, 3, 3, 0, 0, 0, 0])

    def test_no_refusal_where_the_ring_is_not_there(self):
        self.assertEqual(ask_last(*NO_RING, TOLD), [0, 1, 1, 1, 1, 1, 1, 1, 1, 1, 1, 1, 0, 0])

    def test_all_that_was_set(self):
        source = random.Random(127)
        for trial in range(60):
            model = random_model(source, trial % 4)
            awaited = told(model.leak)
            for i in range(3):
                if i in model.bands:
                    n, d, up, low = model.bands[i]
                    awaited += [1] + spread([Fraction(n, d)]) + told([up, low])
                else:
                    awaited.append(0)
            self.assertEqual(ask_last(*model.calls(), TOLD), [0] + awaited)


class Later(unittest.TestCase):
    def up_behind(self, up, *ks):
        calls = [LEAK, band(1, 2, 3, up, [7, 1])]
        answered = ask(*calls, *[later(1, k) for k in ks], TOLD)
        self.assertEqual(answered[2:-1], [[0]] * len(ks))
        # Behind the 0, the leak's rows, no band 0, that there is a band 1, and its gain.
        size = answered[-1][12]
        self.assertEqual(answered[-1][13 + size:], [2, 7, 1, 0])
        return answered[-1][13:13 + size]

    def test_zeros_stand_ahead(self):
        self.assertEqual(self.up_behind([5], 1), [0, 5])
        self.assertEqual(self.up_behind([5], 3), [0, 0, 0, 5])
        self.assertEqual(self.up_behind([5, 6], 2), [0, 0, 5, 6])
        self.assertEqual(self.up_behind([5, 6, -7], 1), [0, 5, 6, -7])

    def test_none(self):
        self.assertEqual(self.up_behind([5, 6], 0), [5, 6])
        self.assertEqual(self.up_behind([5, 6, 7, 8], 0), [5, 6, 7, 8])

    def test_one_behind_another(self):
        self.assertEqual(self.up_behind([5], 1, 1, 1), [0, 0, 0, 5])
        self.assertEqual(self.up_behind([5], 1, 0, 2), [0, 0, 0, 5])

    def test_just_4_and_5(self):
        for size in range(1, 5):
            for k in range(4):
                calls = [LEAK, band(1, 2, 3, [9] * size, [7, 1])]
                answered = ask(*calls, later(1, k), TOLD)
                if size + k <= 4:
                    self.assertEqual(answered[2], [0])
                    self.assertEqual(answered[3], ask_last(LEAK, band(1, 2, 3, [0] * k + [9] * size, [7, 1]), TOLD))
                else:
                    self.assertEqual(answered[2], [-6])
                    self.assertEqual(answered[3], ask_last(*calls, TOLD))

    def test_zeros_at_the_end_count_and_none_are_taken_off(self):
        self.assertEqual(self.up_behind([0], 3), [0, 0, 0, 0])
        self.assertEqual(self.up_behind([5, 0, 0], 1), [0, 5, 0, 0])
        self.assertEqual(ask_last(band(0, 1, 1, [5, 0, 0, 0], [1]), later(0, 1)), [-6])
        self.assertEqual(ask_last(band(0, 1, 1, [0, 0], [1]), later(0, 3)), [-6])

    def test_what_is_heard_comes_later(self):
        source = random.Random(131)
        for trial in range(30):
            up = [source.randint(-9, 9), source.randint(-9, 9)]
            k = trial % 3
            other = band(2, 4, 5, [1, 1], [9, 2])
            moved = ask(LEAK, other, band(0, 1, 7, up, [8, 3]), later(0, k), RING, play([1, 2, 3, 4]))[-2:]
            self.assertEqual(moved, ask(LEAK, other, band(0, 1, 7, [0] * k + up, [8, 3]), RING, play([1, 2, 3, 4]))[-2:])
        self.assertEqual(ask_last(band(0, 1, 1, [3], [1]), later(0, 2), play([1, 2, 3])), [0, 0, 1, 0, 1, 3, 1])

    def test_no_such_band(self):
        for i in range(3):
            others = [band(k, 1, 2, [1, 2, 3, 4], [1]) for k in range(3) if k != i]
            for k in range(4):
                self.assertEqual(ask_last(*others, later(i, k)), [-3])
                self.assertEqual(ask_last(*others, band(i, 1, 2, [1, 2, 3, 4], [1]), mute(i), later(i, k)), [-3])

    def test_out_of_range(self):
        for calls in ([], [band(0, 1, 1, [1, 2, 3, 4], [1])]):
            for k in (4, -1, FAR, -FAR):
                self.assertEqual(ask_last(*calls, later(0, k)), [-1])
                self.assertEqual(ask_last(*calls, later(1, k)), [-1])
            for i in (-1, 3, FAR, -FAR):
                self.assertEqual(ask_last(*calls, later(i, 1)), [-1])

    def test_the_leak_and_other_bands_stay(self):
        calls = [LEAK, band(0, 1, 2, [5], [1]), band(1, 1, 2, [6], [1]), band(2, 1, 2, [7], [1])]
        self.assertEqual(ask_last(*calls, later(1, 2), TOLD),
                         ask_last(*calls[:2], band(1, 1, 2, [0, 0, 6], [1]), calls[3], TOLD))


class Turn(unittest.TestCase):
    def test_the_signs_and_not_the_order(self):
        turned = ask(LEAK, band(0, -2, 3, [1, -2, 0, 4], [-7, 1]), turn(0), TOLD)[2:]
        self.assertEqual(turned, [[0], ask_last(LEAK, band(0, -2, 3, [-1, 2, 0, -4], [-7, 1]), TOLD)])
        self.assertEqual(turned[1][8:], [1, -2, 3, 4, -1, 2, 0, -4, 2, -7, 1, 0, 0])

    def test_twice(self):
        calls = [LEAK, band(0, -2, 3, [1, -2, 0, 4], [-7, 1]), band(2, 1, 1, [3], [5])]
        told_before = ask(*calls, TOLD, RING, play([1, 2]))[-3:]
        self.assertEqual(ask(*calls, turn(0), turn(0), TOLD, RING, play([1, 2]))[-3:], told_before)
        self.assertNotEqual(ask(*calls, turn(0), TOLD, RING, play([1, 2]))[-3:], told_before)
        self.assertEqual(ask(*calls, turn(2), turn(0), turn(2), turn(0), TOLD, RING, play([1, 2]))[-3:], told_before)

    def test_what_is_heard_without_a_leak_turns_round(self):
        self.assertEqual(ask_last(band(0, 1, 1, [3, -1], [1]), turn(0), play([2, 5])), [0, -6, 1, -13, 1])

    def test_it_turns_as_a_gain_below_0_does(self):
        calls = [LEAK, band(1, 2, 3, [1, -2], [-7, 1]), band(2, 1, 1, [3], [5])]
        self.assertEqual(ask(*calls, turn(1), RING, play([1, 2, 3]))[-2:],
                         ask(*calls, gain(1, -2, 3), RING, play([1, 2, 3]))[-2:])

    def test_with_what_later_put_ahead(self):
        self.assertEqual(ask_last(band(0, 1, 1, [3, -1], [1]), later(0, 1), turn(0), TOLD),
                         ask_last(band(0, 1, 1, [0, -3, 1], [1]), TOLD))
        self.assertEqual(ask_last(band(0, 1, 1, [3, -1], [1]), turn(0), later(0, 1), TOLD),
                         ask_last(band(0, 1, 1, [0, -3, 1], [1]), TOLD))

    def test_no_such_band(self):
        for i in range(3):
            others = [band(k, 1, 2, [1], [1]) for k in range(3) if k != i]
            self.assertEqual(ask_last(*others, turn(i)), [-3])
            self.assertEqual(ask_last(*others, band(i, 1, 2, [1], [1]), mute(i), turn(i)), [-3])

    def test_out_of_range(self):
        for i in (-1, 3, FAR, -FAR):
            self.assertEqual(ask(turn(i)), [[-1]])
            self.assertEqual(ask_last(band(0, 1, 1, [1], [1]), turn(i)), [-1])


class Click(unittest.TestCase):
    def test_at_the_beginning(self):
        self.assertEqual(ask(click(1)), [[0, 0, 1]])
        self.assertEqual(ask(click(16)), [[0] + [0, 1] * 16])

    def test_an_echo_that_halves(self):
        calls = [leak([0, 1], [2]), band(0, 1, 1, [1], [1])]
        self.assertEqual(ask_last(*calls, click(1)), [0, 1, 1])
        self.assertEqual(ask_last(*calls, click(3)), [0, 1, 1, 1, 2, 1, 4])
        self.assertEqual(ask_last(*calls, click(16)), [0] + spread([Fraction(1, 2 ** k) for k in range(16)]))

    def test_what_is_not_quiet_is_heard_too(self):
        self.assertEqual(ask_last(*ring_calls([1, -3]), click(3)), [0, 1, 1, 3, 1, 9, 1])

    def test_how_many(self):
        for calls in ([], NO_RING, ring_calls([2, -1])):
            for n in (0, 17, -1, FAR, -FAR):
                self.assertEqual(ask_last(*calls, click(n)), [-1])

    def test_the_ring_is_not_there(self):
        for n in (1, 16):
            self.assertEqual(ask_last(*NO_RING, click(n)), [-5])

    def test_as_play_with_1_and_zeros_and_sample_by_sample(self):
        source = random.Random(137)
        for trial in range(100):
            model = random_model(source, trial % 4)
            n = 1 + trial % 16
            inputs = [1] + [0] * (n - 1)
            clicked, played = ask(*model.calls(), click(n), play(inputs))[-2:]
            self.assertEqual(clicked, played)
            if model.ring_value(0) != 0:
                self.assertEqual(pairs_in(clicked[1:]), model.play(inputs))
                self.assertEqual(clicked, [0] + spread(model.play(inputs)))


if __name__ == "__main__":
    unittest.main()
