"""The interface: the form of what is handed in and given back, and that nothing is kept or changed."""

import inspect
import random
import unittest

import quietaids.aids
from helper import FAR, LOUD, NO_RING, QUIET, RING, STEPS, ask, band, check, gain, leak, mute, play, random_model, told
from quietaids.aids import answers


# Tells of any change, also of one that is taken back.
class Kept(list):
    def refuse(self, *given):
        raise AssertionError("what was handed in is changed")

    append = extend = insert = pop = remove = clear = reverse = sort = refuse
    __setitem__ = __delitem__ = __iadd__ = __imul__ = refuse


def flat(calls):
    return [number for call in calls for number in call]


class Interface(unittest.TestCase):
    def test_its_name_and_argument(self):
        self.assertEqual(answers.__module__, "quietaids.aids")
        self.assertEqual(str(inspect.signature(quietaids.aids.answers)), "(calls)")

    def test_the_form_of_what_is_given_back(self):
        calls = [leak([0, 1], [2]), band(0, 1, 1, [1], [1]), RING, QUIET, STEPS, check([2, 2, -1, 1, 1]), LOUD,
                 play([1, 0]), gain(1, 1, 1), play([1001]), mute(0), STEPS]
        self.assertEqual(answers(flat(calls)), [
            1, 0, 1, 0, 3, 0, 2, -1, 4, 0, 1, -1, 2, 6, 0, 2, 2, -1, 1, 1, 2, 0, 1, 3, 0, 4, 3,
            5, 0, 1, 1, 1, 2, 1, -3, 1, -1, 1, 0, 3, 0, 1, 1])

    def test_whole_numbers_alone(self):
        source = random.Random(53)
        for trial in range(40):
            calls = random_model(source, trial % 4).calls()
            given = answers(flat(calls + [RING, QUIET, STEPS, LOUD, check([1, 1]), play([1] * 16)]))
            self.assertIs(type(given), list)
            self.assertEqual({type(number) for number in given}, {int})

    def test_what_is_handed_in_stays_as_it_was(self):
        source = random.Random(59)
        for trial in range(40):
            handed_in = flat(random_model(source, trial % 4).calls() + [gain(0, 4, 6), STEPS, LOUD, play([3, 4])])
            before = list(handed_in)
            given = answers(handed_in)
            self.assertEqual(handed_in, before)
            self.assertEqual(answers(Kept(handed_in)), given)
            self.assertIsNot(given, handed_in)

    def test_nothing_is_kept(self):
        line = flat([leak([0, 1], [2]), band(0, 1, 1, [1], [1]), RING, STEPS, LOUD])
        other = flat([RING, gain(0, 1, 1)] + NO_RING + [RING])
        first = answers(line)
        second = answers(other)
        self.assertEqual(answers(line), first)
        self.assertEqual(answers(other), second)
        self.assertEqual(second, [2, 0, 1, 1, -3, 1, 0, 1, 0, 1, -5])

    def test_what_is_given_back_may_be_changed(self):
        first = answers(RING)
        first.append(7)
        self.assertEqual(answers(RING), [2, 0, 1])

    def test_sixty_calls(self):
        calls = [leak([0, 1], [4])]
        awaited = [[0]]
        for k in range(29):
            calls += [band(k % 3, k, 30, [1], [1]), RING if k % 2 else play([1])]
        calls.append(mute(0))
        self.assertEqual(len(calls), 60)
        answered = ask(*calls)
        gains = {}
        for k in range(29):
            gains[k % 3] = k
            top = sum(gains.values())
            alone = ask(leak([0, 1], [4]), band(0, top, 30, [1], [1]), RING if k % 2 else play([1]))[2]
            awaited += [[0], alone]
        awaited.append([0])
        self.assertEqual(answered, awaited)

    def test_the_longest_lists(self):
        calls = [band(0, FAR, -FAR, [FAR] * 220, [-FAR] * 220)] * 38 + [RING]
        handed_in = flat(calls)
        self.assertGreater(len(handed_in), 16000)
        self.assertEqual(answers(handed_in), [1, -1] * 38 + [2, 0, 1])

    def test_sixty_of_the_longest_answers(self):
        source = random.Random(61)
        model = random_model(source, 3)
        setting = model.calls()
        calls = setting + [STEPS] * (60 - len(setting))
        answered = ask(*calls)
        self.assertEqual(len(answered), 60)
        self.assertEqual(answered[len(setting):], [answered[-1]] * (60 - len(setting)))

    def test_proofs_go_round(self):
        calls = [leak([0, 1], [20, 3]), band(0, 1, 7, [1, 2], [9, 1]), band(1, 1, 5, [1], [8])]
        proof = ask(*calls, STEPS)[-1][1:]
        self.assertEqual(ask(*calls, check(proof), check(proof[:-2]), check(proof + told([[1]])))[-3:],
                         [[0, 1], [0, 0], [0, 0]])


if __name__ == "__main__":
    unittest.main()
