"""Wrong inputs of each call, which refusal is answered, and that a refused call changes nothing."""

import unittest

from helper import ALONE, ENDS, FAR, LOUD, NO_RING, QUIET, RING, STEPS, TOLD, ask, ask_last, band, check, click, freed
from helper import gain, later, leak, mute, play, quiet_at, ring_calls, row_call, turn, volume

ABOVE_HUNDRED = (101, -101, FAR, -FAR)
ABOVE_THOUSAND = (1001, -1001, FAR, -FAR)
NO_BAND_NUMBER = (-1, 3, FAR, -FAR)
NO_LOWER_NUMBER = (0, -1, 1001, FAR, -FAR)


def wrong_filters():
    good_up = [1, 2]
    good_low = [3, 4]
    for size in (0, 5, 220):
        yield [0] * size, good_low
    for size in (0, 4, 220):
        yield good_up, [1] * size
    for number in ABOVE_HUNDRED:
        for place in range(4):
            yield [number if k == place else 1 for k in range(4)], good_low
        for place in range(3):
            yield good_up, [number if k == place else 1 for k in range(3)]
    yield good_up, [0]
    yield good_up, [0, 1]
    yield good_up, [0, 1, 1]


# Calls that are refused with -1 in whatever state the aid is.
def out_of_range():
    for up, low in wrong_filters():
        yield leak(up, low)
        yield band(0, 1, 2, up, low)
    for i in NO_BAND_NUMBER:
        yield band(i, 1, 2, [1], [1])
        yield gain(i, 1, 2)
        yield mute(i)
    for n in ABOVE_THOUSAND:
        yield band(0, n, 2, [1], [1])
        yield gain(0, n, 2)
    for d in NO_LOWER_NUMBER:
        yield band(0, 1, d, [1], [1])
        yield gain(0, 1, d)
    for size in (201, 202, 220):
        yield check([1] * size)
    for size in (17, 18, 220):
        yield play([0] * size)
    for number in ABOVE_THOUSAND:
        yield play([number])
        yield play([0] * 15 + [number])
    yield from out_of_range_behind_play()


def out_of_range_behind_play():
    for n in (-1, 17, FAR, -FAR):
        yield freed(n, [])
        yield freed(n, [1])
    for size in (13, 14, 220):
        yield freed(1, [0] * size)
    for number in ABOVE_THOUSAND:
        yield freed(1, [number])
        yield freed(1, [0] * 11 + [number])
    for d in (0, -1, 101, FAR, -FAR):
        yield volume(d, 1)
    for m in (-1, 61, FAR, -FAR):
        yield volume(1, m)
    for size in (0, 13, 220):
        yield row_call([1] * size)
    for number in (1000001, -1000001, FAR, -FAR):
        yield row_call([number])
        yield row_call([0] * 11 + [number])
    for i in NO_BAND_NUMBER:
        yield later(i, 1)
        yield turn(i)
    for k in (-1, 4, FAR, -FAR):
        yield later(0, k)
    for n in (0, -1, 17, FAR, -FAR):
        yield click(n)
    for n in (-1, 1001, FAR, -FAR):
        yield quiet_at(n, 1)
    for d in NO_LOWER_NUMBER:
        yield quiet_at(1, d)


class WrongInputs(unittest.TestCase):
    def test_out_of_range(self):
        for call in out_of_range():
            self.assertEqual(ask(call), [[-1]], call)
            self.assertEqual(ask_last(*NO_RING, call), [-1], call)
            self.assertEqual(ask_last(band(0, 1, 1, [1], [1, 3]), call), [-1], call)

    def test_just_within_the_range(self):
        for call in (leak([100, -100, 0, 1], [-100, 0, 100]), leak([0], [1]), band(0, 1000, 1000, [0] * 4, [1] * 3),
                     band(2, -1000, 1, [100], [100]), band(1, 0, 1, [-100], [-100])):
            self.assertEqual(ask(call), [[0]], call)
        for call in (gain(0, 1000, 1), gain(0, -1000, 1000), gain(0, 0, 1000), mute(0), later(0, 0), later(0, 3), turn(0)):
            self.assertEqual(ask_last(band(0, 1, 1, [1], [1]), call), [0], call)
        for call in (freed(0, []), freed(16, []), volume(1, 0), volume(100, 60), row_call([1000000]),
                     row_call([-1000000] * 12), click(1), click(16), quiet_at(0, 1), quiet_at(1000, 1000)):
            self.assertEqual(ask_last(call)[0], 0, call)

    def test_no_band(self):
        for i in range(3):
            others = [band(k, 1, 2, [1], [1]) for k in range(3) if k != i]
            self.assertEqual(ask_last(*others, gain(i, 1, 2)), [-3])
            self.assertEqual(ask_last(*others, mute(i)), [-3])
            self.assertEqual(ask_last(*others, later(i, 1)), [-3])
            self.assertEqual(ask_last(*others, turn(i)), [-3])

    def test_the_one_nearest_to_0(self):
        self.assertEqual(ask(gain(0, 1001, 1)), [[-1]])
        self.assertEqual(ask(gain(0, 1, 0)), [[-1]])
        self.assertEqual(ask(gain(3, 1, 1)), [[-1]])
        self.assertEqual(ask_last(*NO_RING, check([1] * 201)), [-1])
        self.assertEqual(ask_last(*NO_RING, play([1001])), [-1])
        self.assertEqual(ask_last(*NO_RING, play([1] * 17)), [-1])
        self.assertEqual(ask(later(0, 4)), [[-1]])
        self.assertEqual(ask_last(band(0, 1, 1, [1] * 4, [1]), later(0, 4)), [-1])
        self.assertEqual(ask_last(band(0, 1, 1, [1] * 4, [1]), later(1, 3)), [-3])
        self.assertEqual(ask_last(*NO_RING, freed(17, [1])), [-1])
        self.assertEqual(ask_last(*NO_RING, freed(16, [1])), [-5])
        self.assertEqual(ask_last(*ring_calls([2, 1]), freed(17, [])), [-1])
        self.assertEqual(ask_last(*NO_RING, click(0)), [-1])
        self.assertEqual(ask(row_call([0, 1000001])), [[-1]])
        # Its first number is 0, and it wouldn't be quiet either.
        self.assertEqual(ask_last(leak([1, 5], [1]), band(0, 1, 1, [1], [1]), LOUD), [-5])

    def test_a_refused_call_is_left_behind_whole(self):
        for call in out_of_range():
            self.assertEqual(ask(call, RING, call, [8])[1::2], [[0, 1], [0, 0, 1]], call)


class NothingChanged(unittest.TestCase):
    # All that can be told of an aid.
    LOOK = [TOLD, RING, QUIET, STEPS, LOUD, check([1, 1]), play([1, -2, 3, 0, 0, 5]), freed(2, [3]), freed(1, [1, 2]),
            volume(7, 9), ALONE, row_call([4, 1]), ENDS, click(5), quiet_at(2, 3)]
    STATES = [
        [],
        [leak([0, 1], [5, 2]), band(0, 3, 4, [1, 2], [7, 1])],
        [leak([0, 1, -3], [5, 2]), band(0, 3, 4, [1, 2], [7, 1]), band(1, 1, 9, [0, 0, 1], [4, 0, 3])],
        [leak([1], [1, 3]), band(0, -2, 3, [1], [1])],
        NO_RING,
        ring_calls([2, 3, 1]),
    ]

    def refused(self, state, call, refusal):
        told = ask(*state, call, *self.LOOK, gain(0, 5, 7), gain(1, 5, 7), gain(2, 5, 7), *self.LOOK)
        awaited = ask(*state, *self.LOOK, gain(0, 5, 7), gain(1, 5, 7), gain(2, 5, 7), *self.LOOK)
        self.assertEqual(told[len(state)], [refusal], call)
        self.assertEqual(told[len(state) + 1:], awaited[len(state):], call)

    def test_out_of_range(self):
        for state in self.STATES:
            for call in out_of_range():
                self.refused(state, call, -1)

    def test_a_wrong_number_behind_right_ones(self):
        for state in self.STATES:
            self.refused(state, leak([9, 9], [8, 101]), -1)
            self.refused(state, band(0, 9, 8, [7], [6, 5, -101]), -1)
            self.refused(state, band(2, 9, 8, [7], [0]), -1)

    def test_no_band(self):
        for state in self.STATES:
            self.refused(state, gain(2, 9, 8), -3)
            self.refused(state, mute(2), -3)
            self.refused(state, turn(2), -3)
            self.refused(state, later(2, 1), -3)

    def test_no_ring(self):
        for call in (RING, QUIET, STEPS, LOUD, check([]), play([]), freed(0, []), freed(3, [1, 2]), ENDS, click(2)):
            self.refused(NO_RING, call, -5)
        for state in self.STATES:
            self.refused(state, row_call([0, 4]), -5)

    def test_wrong_size(self):
        for state in self.STATES:
            self.refused(state + [band(0, 1, 5, [3, 1, 4], [7])], later(0, 2), -6)
            self.refused(state + [band(0, 1, 5, [0] * 4, [7])], later(0, 1), -6)
            if state != NO_RING:
                self.refused(state, freed(3, [1] * 11), -6)

    def test_not_quiet(self):
        self.refused([leak([1], [1, 3]), band(0, -2, 3, [1], [1])], LOUD, -8)
        self.refused(ring_calls([2, 3, 1]), LOUD, -8)

    def test_calls_that_only_ask(self):
        for state in self.STATES:
            alone = ask(*state, *self.LOOK)[len(state):]
            for call in self.LOOK + [freed(16, []), freed(0, [5, 5, 5]), volume(100, 60), volume(1, 60), row_call([5, 4]),
                                     click(16), quiet_at(0, 1), quiet_at(1000, 1), check([]), play([7])]:
                told = ask(*state, call, *self.LOOK, call)[len(state):]
                self.assertEqual(told[1:-1], alone, call)
                self.assertEqual(told[0], told[-1], call)


if __name__ == "__main__":
    unittest.main()
