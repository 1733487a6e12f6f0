"""volume and quiet_at: up to which volume the aid is quiet."""

import random
import unittest
from fractions import Fraction

from helper import FAR, NO_RING, QUIET, ask, ask_last, band, gain, leak, mute, quiet_at, random_model, volume

# At volume v the ring's row is 1 -v: quiet below 1.
BELOW_ONE = [leak([0, 1], [1]), band(0, 1, 1, [1], [1])]
# At volume v it's 2 - 3v, 1: quiet below 1/3 and again above 1; its first number is 0 at 2/3.
AND_AGAIN = [leak([1], [1]), band(0, 3, 1, [1], [2, 1])]
# At volume v it's 2 - v, one number: quiet everywhere but at 2, where the ring isn't there.
ALL_BUT_TWO = [leak([1], [1]), band(0, 1, 1, [1], [2])]
# At volume v it's 1, 2 - 2v: not quiet at 0, but at 1.
NOT_AT_NOTHING = [leak([1], [1]), band(0, 1, 1, [0, 2], [1, 2])]


class Volume(unittest.TestCase):
    def test_up_to_some_volume(self):
        self.assertEqual(ask_last(*BELOW_ONE, volume(10, 60)), [0, 1, 9])
        self.assertEqual(ask_last(*BELOW_ONE, volume(10, 9)), [0, 1, 9])
        self.assertEqual(ask_last(*BELOW_ONE, volume(10, 8)), [0, 1, 8])
        self.assertEqual(ask_last(*BELOW_ONE, volume(60, 60)), [0, 1, 59])
        self.assertEqual(ask_last(*BELOW_ONE, volume(1, 60)), [0, 1, 0])
        self.assertEqual(ask_last(*BELOW_ONE, volume(2, 1)), [0, 1, 1])

    def test_quiet_at_all_the_volumes(self):
        self.assertEqual(ask_last(*BELOW_ONE, volume(100, 60)), [0, 1, 60])
        for calls in ([], [leak([5, 5], [2, 1])], [band(1, 1000, 1, [100], [2, 1])]):
            for m in (0, 1, 60):
                self.assertEqual(ask_last(*calls, volume(1, m)), [0, 1, m])
                self.assertEqual(ask_last(*calls, volume(100, m)), [0, 1, m])

    def test_quiet_at_none(self):
        for calls in ([leak([0], [1, 2])], [leak([1], [1, 1]), band(0, 1, 1, [1], [3])],
                      [band(2, 1, 5, [1], [1, 3])], [band(0, 0, 1, [1], [1, 0, -1])]):
            for d, m in ((1, 0), (1, 60), (100, 0), (100, 60)):
                self.assertEqual(ask_last(*calls, volume(d, m)), [0, 0])

    def test_what_is_quiet_later_alone(self):
        self.assertEqual(ask_last(*NOT_AT_NOTHING, volume(1, 60)), [0, 0])
        self.assertEqual(ask_last(*NOT_AT_NOTHING, quiet_at(1, 1)), [0, 1])
        self.assertEqual(ask_last(*NOT_AT_NOTHING, QUIET)[:2], [0, 1])

    def test_quiet_up_to_some_volume_and_again_later(self):
        self.assertEqual(ask_last(*AND_AGAIN, volume(6, 60)), [0, 1, 1])
        self.assertEqual(ask_last(*AND_AGAIN, volume(9, 60)), [0, 1, 2])
        self.assertEqual(ask_last(*AND_AGAIN, volume(100, 60)), [0, 1, 33])
        # At 0, 2, 4, ..; what lies between isn't asked.
        self.assertEqual(ask_last(*AND_AGAIN, gain(0, 6, 1), volume(1, 60)), [0, 1, 60])

    def test_a_volume_at_which_the_ring_is_not_there(self):
        self.assertEqual(ask_last(*ALL_BUT_TWO, volume(1, 60)), [0, 1, 1])
        self.assertEqual(ask_last(*ALL_BUT_TWO, volume(3, 60)), [0, 1, 5])
        self.assertEqual(ask_last(*ALL_BUT_TWO, volume(3, 5)), [0, 1, 5])
        self.assertEqual(ask_last(*ALL_BUT_TWO, gain(0, 4, 3), volume(1, 60)), [0, 1, 60])

    def test_no_refusal_where_the_ring_is_not_there(self):
        self.assertEqual(ask_last(*NO_RING, volume(1, 60)), [0, 1, 0])
        self.assertEqual(ask_last(*NO_RING, volume(7, 60)), [0, 1, 6])

    def test_gains(self):
        for n, d, awaited in ((500, 1000, 19), (3, 6, 19), (-3, 6, 19), (3, 2, 6), (-600, 400, 6), (0, 7, 60)):
            self.assertEqual(ask_last(*BELOW_ONE, gain(0, n, d), volume(10, 60)), [0, 1, awaited])

    def test_two_and_three_bands(self):
        # 1/2 + 1/3 + 1/6 of the sound one later over a leak of 1/2: 2 -v, quiet below 2.
        two = [leak([1], [2]), band(2, 1, 2, [0, 1], [1]), band(0, 1, 3, [0, 1], [1])]
        three = two + [band(1, 1, 6, [0, 1], [1])]
        self.assertEqual(ask_last(*three, volume(7, 60)), [0, 1, 13])
        self.assertEqual(ask_last(*two, volume(5, 60)), [0, 1, 11])
        self.assertEqual(ask_last(*three, mute(1), volume(5, 60)), [0, 1, 11])

    def test_the_volume_is_kept_nowhere(self):
        told = ask(*BELOW_ONE, QUIET, volume(10, 60), quiet_at(1, 2), QUIET, volume(10, 60))
        self.assertEqual(told[2:], [[0, 0, -1, 1], [0, 1, 9], [0, 1], [0, 0, -1, 1], [0, 1, 9]])

    def test_out_of_range(self):
        for calls in ([], BELOW_ONE, NO_RING):
            for d in (0, -1, 101, FAR, -FAR):
                self.assertEqual(ask_last(*calls, volume(d, 5)), [-1])
            for m in (-1, 61, FAR, -FAR):
                self.assertEqual(ask_last(*calls, volume(5, m)), [-1])

    def test_by_a_matrix(self):
        source = random.Random(83)
        seen = {}
        for trial in range(60):
            model = random_model(source, trial % 4)
            d, m = source.choice([1, 2, 10, 100]), source.randint(0, 6)
            quiet = [model.is_quiet_at(Fraction(u, d)) for u in range(m + 1)]
            awaited = [0, 1, (quiet + [False]).index(False) - 1] if quiet[0] else [0, 0]
            seen[tuple(awaited)] = True
            self.assertEqual(ask_last(*model.calls(), volume(d, m)), awaited)
        self.assertGreater(len(seen), 5)


class QuietAt(unittest.TestCase):
    def quiet_from(self, calls, pairs):
        told = ask(*calls, *[quiet_at(n, d) for n, d in pairs])[len(calls):]
        self.assertEqual({len(answer) for answer in told}, {2})
        self.assertEqual({answer[0] for answer in told}, {0})
        return [answer[1] for answer in told]

    def test_below_one(self):
        pairs = [(0, 1), (1, 1000), (1, 2), (999, 1000), (1000, 1000), (1, 1), (1000, 999), (1000, 1)]
        self.assertEqual(self.quiet_from(BELOW_ONE, pairs), [1, 1, 1, 1, 0, 0, 0, 0])

    def test_again_later(self):
        pairs = [(0, 1000), (1, 6), (333, 1000), (1, 3), (1, 2), (2, 3), (5, 6), (1, 1), (7, 6), (1000, 1)]
        self.assertEqual(self.quiet_from(AND_AGAIN, pairs), [1, 1, 1, 0, 0, 0, 0, 0, 1, 1])

    def test_a_first_number_of_0(self):
        pairs = [(2, 1), (1000, 500), (1, 1), (3, 1), (999, 500)]
        self.assertEqual(self.quiet_from(ALL_BUT_TWO, pairs), [0, 0, 1, 1, 1])
        # At volume 1 the ring isn't there; at others it is.
        self.assertEqual(self.quiet_from(NO_RING, [(1, 1), (7, 7), (0, 1), (2, 1), (1, 2)]), [0, 0, 1, 1, 1])
        self.assertEqual(ask_last(*NO_RING, QUIET), [-5])

    def test_at_the_beginning_and_without_bands(self):
        for n, d in ((0, 1), (0, 1000), (1000, 1), (1000, 1000)):
            self.assertEqual(ask(quiet_at(n, d)), [[0, 1]])
            self.assertEqual(ask_last(leak([1], [1, 1]), quiet_at(n, d)), [0, 0])

    def test_at_nothing_the_lower_rows_are_still_there(self):
        self.assertEqual(self.quiet_from(NOT_AT_NOTHING, [(0, 1), (1, 2), (3, 4), (1, 1), (3, 2)]), [0, 0, 1, 1, 0])

    def test_out_of_range(self):
        for calls in ([], BELOW_ONE, NO_RING):
            for n in (-1, 1001, FAR, -FAR):
                self.assertEqual(ask_last(*calls, quiet_at(n, 1)), [-1])
            for d in (0, -1, 1001, FAR, -FAR):
                self.assertEqual(ask_last(*calls, quiet_at(1, d)), [-1])

    def test_at_volume_1_it_is_what_quiet_says(self):
        source = random.Random(89)
        for trial in range(100):
            calls = random_model(source, trial % 4).calls()
            quiet, at_one = ask(*calls, QUIET, quiet_at(7, 7))[-2:]
            self.assertEqual(at_one, [0, 0] if quiet == [-5] else quiet[:2])

    def test_by_a_matrix(self):
        source = random.Random(97)
        seen = {True: 0, False: 0}
        for trial in range(120):
            model = random_model(source, trial % 4)
            n, d = source.choice([(0, 1), (1000, 1), (1, 1000), (source.randint(0, 1000), source.randint(1, 1000))])
            awaited = model.is_quiet_at(Fraction(n, d))
            seen[awaited] += 1
            self.assertEqual(ask_last(*model.calls(), quiet_at(n, d)), [0, int(awaited)])
        self.assertGreater(min(seen.values()), 25)


class Both(unittest.TestCase):
    def agree(self, calls, d, m):
        told = ask_last(*calls, volume(d, m))
        quiet = [ask_last(*calls, quiet_at(u, d))[1] for u in range(m + 1)]
        run = (quiet + [0]).index(0)
        self.assertEqual(told, [0, 1, run - 1] if run else [0, 0], (calls, d, m))
        return run

    def test_up_to_the_told_volume_every_volume_asked_is_quiet(self):
        for calls in (BELOW_ONE, AND_AGAIN, ALL_BUT_TWO, NOT_AT_NOTHING, NO_RING, []):
            for d, m in ((1, 0), (1, 60), (3, 60), (6, 7), (100, 60)):
                self.agree(calls, d, m)

    def test_so_it_is_for_all_kinds_of_aids(self):
        source = random.Random(101)
        inside = 0
        for trial in range(160):
            m = source.randint(0, 60)
            run = self.agree(random_model(source, trial % 4).calls(), source.choice([1, 7, 30, 100]), m)
            inside += 1 < run <= m
        self.assertGreater(inside, 8)


if __name__ == "__main__":
    unittest.main()
