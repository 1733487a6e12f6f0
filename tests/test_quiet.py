"""quiet, steps, check: when the ring's row is quiet, and proofs of it."""

import random
import unittest
from fractions import Fraction

from helper import FAR, NO_RING, QUIET, STEPS, ask, ask_last, band, check, leak, plain, proof_by_words, quiet_by_matrix
from helper import random_model, ring_calls, rows_in, spread, steps_by_fractions, told


def steps_of(row):
    return rows_in(ask_last(*ring_calls(row), STEPS)[1:])


# Rows that are mostly alike to those handed in, and sometimes wrong in one of several ways.
def meddled(source, rows):
    rows = [[number * source.randint(1, 3) for number in row] if source.random() < 0.02 else
            [number * factor for number in row] + [0] * source.choice([0, 0, 1, 2])
            for row, factor in zip(rows, source.choices([1, 2, 5, -1], [30, 30, 30, 1], k=len(rows)))]
    if source.random() < 0.1:
        rows.append([source.randint(-1, 1)])
    if source.random() < 0.1:
        rows.pop(source.randrange(len(rows)))
    if rows and source.random() < 0.1:
        row = source.choice(rows)
        row[source.randrange(len(row))] += source.choice([-1, 1])
    if rows and source.random() < 0.1:
        rows.insert(source.randrange(len(rows)), list(source.choice(rows)))
    return rows


class Steps(unittest.TestCase):
    def test_a_row_of_one_number(self):
        self.assertEqual(ask(*ring_calls([7]), QUIET, STEPS)[2:], [[0, 1], [0, 1, 1]])

    def test_a_quiet_row_of_two(self):
        self.assertEqual(ask(*ring_calls([2, -1]), QUIET, STEPS)[2:], [[0, 1, -1, 2], [0, 2, 2, -1, 1, 1]])

    def test_a_quiet_row_of_three(self):
        # 6 1 2: 36 - 4 = 32, 6 - 2 = 4, so 8 1; 64 - 1 = 63, so 1.
        self.assertEqual(steps_of([6, 1, 2]), [[6, 1, 2], [8, 1], [1]])
        self.assertEqual(ask_last(*ring_calls([6, 1, 2]), QUIET), [0, 1, 1, 3, 1, 8])

    def test_a_quiet_row_of_four(self):
        # 4 2 0 1: 16 - 1 = 15, 8 - 0 = 8, 0 - 2 = -2; 225 - 4 = 221, 120 + 16 = 136, which is 13 8; then 1.
        self.assertEqual(steps_of([4, 2, 0, 1]), [[4, 2, 0, 1], [15, 8, -2], [13, 8], [1]])
        self.assertEqual(ask_last(*ring_calls([4, 2, 0, 1]), QUIET), [0, 1, 1, 4, -2, 15, 8, 13])

    def test_rows_are_made_plain_first(self):
        self.assertEqual(steps_of([-12, -2, -4, 0]), [[6, 1, 2], [8, 1], [1]])

    def test_a_row_without_any_step(self):
        self.assertEqual(ask(*ring_calls([1, 3]), QUIET, STEPS)[2:], [[0, 0, 3, 1], [0, 2, 1, 3]])
        self.assertEqual(ask(*ring_calls([2, 5, -4]), QUIET, STEPS)[2:], [[0, 0, -2, 1], [0, 3, 2, 5, -4]])

    def test_last_and_first_alike_without_sign(self):
        self.assertEqual(ask(*ring_calls([1, 1]), QUIET, STEPS)[2:], [[0, 0, 1, 1], [0, 2, 1, 1]])
        self.assertEqual(ask(*ring_calls([1, -1]), QUIET, STEPS)[2:], [[0, 0, -1, 1], [0, 2, 1, -1]])
        self.assertEqual(ask(*ring_calls([3, 1, -3]), QUIET, STEPS)[2:], [[0, 0, -1, 1], [0, 3, 3, 1, -3]])

    def test_stopping_in_the_middle(self):
        # 2 3 1: 4 - 1 = 3, 6 - 3 = 3, so 1 1, which has no step.
        self.assertEqual(ask(*ring_calls([2, 3, 1]), QUIET, STEPS)[2:], [[0, 0, 1, 2, 1, 1], [0, 3, 2, 3, 1, 2, 1, 1]])
        self.assertEqual(ask_last(*ring_calls([2, -3, 1]), QUIET), [0, 0, 1, 2, -1, 1])
        # 2 7 1: 3, 7, the last one being greater.
        self.assertEqual(ask_last(*ring_calls([2, 7, 1]), QUIET), [0, 0, 1, 2, 7, 3])

    def test_a_step_with_zeros_at_its_end(self):
        self.assertEqual(steps_of([2, 0, 1]), [[2, 0, 1], [1]])
        self.assertEqual(ask_last(*ring_calls([2, 0, 1]), QUIET), [0, 1, 1, 2])
        # 2 0 0 1: 3 0 0; and 2 4 2 1: 4 - 1 = 3, 8 - 2 = 6, 4 - 4 = 0, so 1 2.
        self.assertEqual(steps_of([2, 0, 0, -1]), [[2, 0, 0, -1], [1]])
        self.assertEqual(steps_of([2, 4, 2, 1]), [[2, 4, 2, 1], [1, 2]])
        self.assertEqual(ask_last(*ring_calls([2, 4, 2, 1]), QUIET), [0, 0, 1, 2, 2, 1])

    def test_fractions_are_in_lowest_terms(self):
        self.assertEqual(ask_last(*ring_calls([6, 1, 4]), QUIET), [0, 1, 2, 3, 1, 10])

    def test_long_rows_by_second_ways(self):
        source = random.Random(23)
        seen = {True: 0, False: 0}
        longest = 0
        for trial in range(200):
            model = random_model(source, trial % 4)
            if model.ring_value(0) == 0:
                continue
            row = model.ring_row()
            steps = steps_by_fractions(row)
            is_quiet = quiet_by_matrix(row)
            seen[is_quiet] += 1
            longest = max(longest, len(steps))
            ratios = [Fraction(each[-1], each[0]) for each in steps if len(each) > 1]
            answered = ask(*model.calls(), QUIET, STEPS)[-2:]
            self.assertEqual(answered, [[0, int(is_quiet)] + spread(ratios), [0] + told(steps)])
        self.assertGreater(min(seen.values()), 40)
        self.assertGreater(longest, 9)


class Check(unittest.TestCase):
    def answered(self, row, rows):
        return ask_last(*ring_calls(row), check(told(rows)))

    def accepted(self, row, rows):
        self.assertEqual(self.answered(row, rows), [0, 1])

    def not_accepted(self, row, rows):
        self.assertEqual(self.answered(row, rows), [0, 0])

    def test_the_told_steps_are_a_proof_of_a_quiet_row_alone(self):
        source = random.Random(31)
        seen = {True: 0, False: 0}
        for trial in range(150):
            model = random_model(source, trial % 4)
            if model.ring_value(0) == 0:
                continue
            row = model.ring_row()
            steps = steps_by_fractions(row)
            proof = told(steps)
            # A list of more than 200 numbers, or numbers of more than it may have, can't be handed in.
            if len(proof) <= 200 and max(abs(number) for number in proof) <= FAR:
                is_quiet = quiet_by_matrix(row)
                seen[is_quiet] += 1
                self.assertEqual(ask_last(*model.calls(), check(proof)), [0, int(is_quiet)])
        self.assertGreater(min(seen.values()), 20)

    def test_other_fractions_above_0(self):
        self.accepted([6, 1, 2], [[6, 1, 2], [8, 1], [1]])
        self.accepted([6, 1, 2], [[12, 2, 4], [24, 3], [FAR]])
        self.accepted([12, 2, 4], [[6, 1, 2], [32, 4], [7]])
        self.accepted([12, 4, 4], [[9, 3, 3], [4, 1], [2]])
        self.accepted([-6, -1, -2], [[6, 1, 2], [8, 1], [1]])

    def test_zeros_at_ends(self):
        self.accepted([6, 1, 2], [[6, 1, 2, 0, 0], [8, 1, 0], [1, 0, 0, 0]])
        self.accepted([2, 0, 1], [[2, 0, 1], [3, 0]])
        self.accepted([2, 0, 1], [[4, 0, 2, 0], [5]])
        self.accepted([7], [[3, 0, 0]])

    def test_alike_only_by_a_number_below_0(self):
        self.not_accepted([6, 1, 2], [[-6, -1, -2], [8, 1], [1]])
        self.not_accepted([6, 1, 2], [[6, 1, 2], [-8, -1], [1]])
        self.not_accepted([6, 1, 2], [[6, 1, 2], [8, 1], [-1]])
        self.not_accepted([7], [[-1]])
        self.not_accepted([-6, -1, -2], [[-6, -1, -2], [8, 1], [1]])

    def test_rows_that_are_not_alike(self):
        self.not_accepted([6, 1, 2], [[6, 1, 3], [8, 1], [1]])
        self.not_accepted([6, 1, 2], [[6, 1, 2], [8, 2], [1]])
        self.not_accepted([6, 1, 2], [[6, 2, 1], [8, 1], [1]])
        self.not_accepted([6, 1, 2], [[0, 6, 1, 2], [8, 1], [1]])
        self.not_accepted([6, 1, 2], [[6, 1, 2], [0, 8, 1], [1]])
        self.not_accepted([6, 1, 2], [[6, 1, 2], [8, 1], [0, 1]])
        self.not_accepted([6, 1, 2], [[6, 1, 2], [8, -1], [1]])

    def test_a_row_too_many(self):
        self.not_accepted([6, 1, 2], [[6, 1, 2], [8, 1], [1], [1]])
        self.not_accepted([6, 1, 2], [[6, 1, 2], [6, 1, 2], [8, 1], [1]])
        self.not_accepted([2, 0, 1], [[2, 0, 1], [1, 0], [1]])
        self.not_accepted([7], [[1], [1]])

    def test_a_row_missing(self):
        self.not_accepted([6, 1, 2], [[6, 1, 2], [8, 1]])
        self.not_accepted([6, 1, 2], [[6, 1, 2], [1]])
        self.not_accepted([6, 1, 2], [[8, 1], [1]])
        self.not_accepted([6, 1, 2], [[1]])

    def test_a_row_of_zeros_alone(self):
        self.not_accepted([6, 1, 2], [[6, 1, 2], [8, 1], [0]])
        self.not_accepted([6, 1, 2], [[0, 0, 0], [8, 1], [1]])
        self.not_accepted([6, 1, 2], [[6, 1, 2], [8, 1], [1], [0, 0]])
        self.not_accepted([7], [[0]])

    def test_the_empty_list(self):
        self.not_accepted([6, 1, 2], [])
        self.not_accepted([7], [])

    def test_no_such_rows(self):
        proof = [3, 6, 1, 2, 2, 8, 1, 1, 1]
        for wrong in (proof + [0], [0] + proof, proof + [-1], proof[:4] + [0] + proof[4:], [-1] + proof, proof + [1],
                      proof[:-1], proof[:-2], proof + [FAR], proof + [-FAR], [FAR] + proof, [-FAR] + proof,
                      [9] + proof, [0], [-1], [1], [FAR], [-FAR], [3, 6, 1, 2, 2, 8, 1, 2, 1], [-3, 6, 1, 2]):
            self.assertEqual(ask_last(*ring_calls([6, 1, 2]), check(wrong)), [0, 0], wrong)
        self.assertEqual(ask_last(*ring_calls([6, 1, 2]), check(proof)), [0, 1])

    def test_what_is_not_quiet_has_no_proof(self):
        for row in ([1, 3], [1, 1], [2, 3, 1], [2, 4, 2, 1]):
            steps = steps_of(row)
            self.not_accepted(row, steps)
            self.not_accepted(row, steps + [[1]])
            self.not_accepted(row, [steps[0], [1]])

    def test_steps_that_are_meddled_with(self):
        source = random.Random(37)
        seen = {True: 0, False: 0}
        for trial in range(3000):
            row = [source.randint(2, 9)] + [source.randint(-6, 6) for k in range(source.randint(0, 3))]
            rows = meddled(source, steps_by_fractions(row))
            awaited = proof_by_words(rows, row)
            seen[awaited] += 1
            self.assertEqual(self.answered(row, rows), [0, int(awaited)], (row, rows))
            self.assertTrue(quiet_by_matrix(plain(row)) or not awaited)
        self.assertGreater(min(seen.values()), 500)

    def test_how_long_the_list_may_be(self):
        calls = ring_calls([7])
        self.assertEqual(ask_last(*calls, check([199, 1] + [0] * 198)), [0, 1])
        self.assertEqual(ask_last(*calls, check([200, 1] + [0] * 199)), [-1])
        self.assertEqual(ask_last(*calls, check([219, 1] + [0] * 218)), [-1])
        self.assertEqual(ask_last(*calls, check([1] * 200)), [0, 0])

    def test_where_the_ring_is_not_there(self):
        self.assertEqual(ask_last(*NO_RING, check([1] * 200)), [-5])
        self.assertEqual(ask_last(*NO_RING, check([0])), [-5])
        for size in (201, 220):
            self.assertEqual(ask_last(*NO_RING, check([1] * size)), [-1])

    def test_its_numbers_have_no_narrower_range(self):
        calls = [leak([0], [2]), band(0, 1, 1, [0], [1])]
        self.assertEqual(ask_last(*calls, check([1, FAR])), [0, 1])
        self.assertEqual(ask_last(*calls, check([1, -FAR])), [0, 0])
        self.assertEqual(ask_last(*calls, check([FAR])), [0, 0])


if __name__ == "__main__":
    unittest.main()
