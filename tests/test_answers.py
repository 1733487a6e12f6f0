"""The interface: the form of what is handed in and given back, and that nothing is kept or changed."""

import inspect
import random
import unittest

import quietaids.aids
from helper import ALONE, ENDS, FAR, LOUD, NO_RING, QUIET, RING, STEPS, TOLD, ask, band, check, click, freed, gain
from helper import later, leak, mute, play, quiet_at, random_model, row_call, told, turn, volume
from quietaids.aids import answers


# Tells of any change, also of one that is taken back.
class Kept(list):
    def refuse(self, *given):
        raise AssertionError("what was handed in is changed")

    append = extend = insert = pop = remove = clear = reverse = sort = refuse
    __setitem__ = __delitem__ = __iadd__ = __imul__ = refuse


def flat(calls):
    return [number for call in calls for number in call]


# All calls that only ask, with the longest lists and the most answers.
def asking(source):
    beginnings = [freed(16, [source.randint(-1000, 1000) for k in range(n)]) for n in range(11)]
    numbers = [1000000] + [source.randint(-99999, 99999) for k in range(11)]
    return beginnings + [RING, QUIET, STEPS, check([1, 1]), check([FAR] * 200), LOUD, play([1000, -999] * 8), ALONE,
                         volume(100, 60), volume(97, 60), row_call(numbers), ENDS, TOLD, click(16), quiet_at(997, 991)]


# The longest ring's row there can be, with numbers that have nothing in common, and quiet.
LARGEST = [leak([3, -1, 5, 97], [100, 9, -37])] + [
    band(i, 1, 997 - i, [89, -97, 83 + i, 100 - i], [-99 + i, 31, 17 * i - 20]) for i in range(3)]


class Interface(unittest.TestCase):
    def test_its_name_and_argument(self):
        self.assertEqual(answers.__module__, "quietaids.aids")
        self.assertEqual(str(inspect.signature(quietaids.aids.answers)), "(calls)")

    def test_the_form_of_what_is_given_back(self):
        calls = [leak([0, 1], [2]), band(0, 1, 1, [1], [1]), RING, QUIET, STEPS, check([2, 2, -1, 1, 1]), LOUD,
                 play([1, 0]), gain(1, 1, 1), play([1001]), mute(0), STEPS]
        self.assertEqual(answers(flat(calls)), [
            1, 0, 1, 0, 3, 0, 2, -1, 4, 0, 1, -1, 2, 6, 0, 2, 2, -1, 1, 1, 2, 0, 1, 3, 0, 4, 3,
            5, 0, 1, 1, 1, 2, 1, -3, 1, -1, 1, 0, 3, 0, 1, 1])

    def test_the_form_of_the_calls_from_freed_on(self):
        calls = [leak([0, 1], [2]), band(0, 1, 1, [1], [1]), freed(2, [8]), volume(10, 60), ALONE, row_call([2, -1]),
                 ENDS, later(0, 1), turn(0), TOLD, click(4), quiet_at(5, 2), freed(1, [8]), later(1, 1), later(0, 3),
                 row_call([0]), volume(0, 0)]
        self.assertEqual(flat(calls), [
            0, 2, 0, 1, 1, 2, 1, 0, 1, 1, 1, 1, 1, 1, 10, 2, 1, 8, 11, 10, 60, 12, 13, 2, 2, -1,
            14, 15, 0, 1, 16, 0, 17, 18, 4, 19, 5, 2, 10, 1, 1, 8, 15, 1, 1, 15, 0, 3, 13, 1, 0, 11, 0, 0])
        self.assertEqual(answers(flat(calls)), [
            1, 0, 1, 0, 8, 0, 1, 64, 3, 4, 1, 2, 1, 3, 0, 1, 19, 5, 0, 1, 1, -1, -1, 7, 0, 1, 2, 2, -1, 1, 1,
            3, 0, 1, 3, 1, 0, 1, 0, 16, 0, 2, 0, 1, 1, 2, 1, 1, 1, 2, 0, -1, 1, 1, 0, 0,
            9, 0, 0, 1, -1, 1, 0, 1, 1, 2, 2, 0, 0, 1, -6, 1, -3, 1, -6, 1, -5, 1, -1])

    def test_whole_numbers_alone(self):
        source = random.Random(53)
        for trial in range(40):
            calls = random_model(source, trial % 4).calls()
            given = answers(flat(calls + asking(source) + [later(0, 1), turn(1), mute(2), TOLD]))
            self.assertIs(type(given), list)
            self.assertEqual({type(number) for number in given}, {int})

    def test_what_is_handed_in_stays_as_it_was(self):
        source = random.Random(59)
        for trial in range(40):
            changing = [gain(0, 4, 6), later(0, 1), turn(0), later(1, 0), turn(1), mute(1)]
            handed_in = flat(random_model(source, trial % 4).calls() + changing + asking(source))
            before = list(handed_in)
            given = answers(handed_in)
            self.assertEqual(handed_in, before)
            self.assertEqual(answers(Kept(handed_in)), given)
            self.assertIsNot(given, handed_in)

    def test_nothing_is_kept(self):
        line = flat([leak([0, 1], [2]), band(0, 1, 1, [1], [1]), RING, STEPS, LOUD])
        other = flat([RING, gain(0, 1, 1)] + NO_RING + [RING])
        first = answers(line)
        second = answers(other)
        self.assertEqual(answers(line), first)
        self.assertEqual(answers(other), second)
        self.assertEqual(second, [2, 0, 1, 1, -3, 1, 0, 1, 0, 1, -5])

    def test_what_is_given_back_may_be_changed(self):
        first = answers(RING)
        first.append(7)
        self.assertEqual(answers(RING), [2, 0, 1])

    def test_sixty_calls(self):
        calls = [leak([0, 1], [4])]
        awaited = [[0]]
        for k in range(29):
            calls += [band(k % 3, k, 30, [1], [1]), RING if k % 2 else play([1])]
        calls.append(mute(0))
        self.assertEqual(len(calls), 60)
        answered = ask(*calls)
        gains = {}
        for k in range(29):
            gains[k % 3] = k
            top = sum(gains.values())
            alone = ask(leak([0, 1], [4]), band(0, top, 30, [1], [1]), RING if k % 2 else play([1]))[2]
            awaited += [[0], alone]
        awaited.append([0])
        self.assertEqual(answered, awaited)

    def test_the_longest_lists(self):
        calls = [band(0, FAR, -FAR, [FAR] * 220, [-FAR] * 220)] * 38 + [RING]
        handed_in = flat(calls)
        self.assertGreater(len(handed_in), 16000)
        self.assertEqual(answers(handed_in), [1, -1] * 38 + [2, 0, 1])

    def test_sixty_of_the_longest_answers(self):
        source = random.Random(61)
        model = random_model(source, 3)
        setting = model.calls()
        calls = setting + [STEPS] * (60 - len(setting))
        answered = ask(*calls)
        self.assertEqual(len(answered), 60)
        self.assertEqual(answered[len(setting):], [answered[-1]] * (60 - len(setting)))

    def test_all_twenty_calls_with_the_largest_numbers(self):
        source = random.Random(61)
        looked = asking(source)
        self.assertEqual(len(looked), 26)
        changed = [turn(0), turn(0), later(1, 0), gain(2, 1, 995)]
        calls = LARGEST + looked + changed + looked[:-1] + [mute(2)]
        self.assertEqual(len(calls), 60)
        self.assertEqual({call[0] for call in calls}, set(range(20)))
        answered = ask(*calls)
        self.assertEqual(answered[:4] + answered[30:34] + answered[-1:], [[0]] * 9)
        self.assertEqual(answered[4:29], answered[34:59])
        refused = [answer for answer in answered if answer[0] < 0]
        self.assertEqual(refused, [[-6]] * 20)
        self.assertEqual(len(answered[14]), 2 + 2 + 32)
        self.assertEqual(len(answered[15]), 12)
        self.assertEqual(answered[4 + 19:4 + 21], [[0, 1, 60], [0, 1, 60]])
        self.assertEqual(ask(*calls), answered)

    def test_asking_twice(self):
        source = random.Random(139)
        for trial in range(20):
            model = random_model(source, trial % 4).calls()
            looked = asking(source)
            answered = ask(*model, *looked, *looked)[len(model):]
            self.assertEqual(answered[:len(looked)], answered[len(looked):])

    def test_the_longest_wrong_lists(self):
        for call, size in ((freed(FAR, [FAR] * 220), 223), (row_call([-FAR] * 220), 222), (check([FAR] * 220), 222)):
            self.assertEqual(len(call), size)
            self.assertEqual(ask(*[call] * 59, TOLD), [[-1]] * 59 + [[0, 1, 0, 1, 1, 0, 0, 0]])

    def test_proofs_go_round(self):
        calls = [leak([0, 1], [20, 3]), band(0, 1, 7, [1, 2], [9, 1]), band(1, 1, 5, [1], [8])]
        proof = ask(*calls, STEPS)[-1][1:]
        self.assertEqual(ask(*calls, check(proof), check(proof[:-2]), check(proof + told([[1]])))[-3:],
                         [[0, 1], [0, 0], [0, 0]])


if __name__ == "__main__":
    unittest.main()
