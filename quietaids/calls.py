"""The calls: each looks at its numbers and lists, and gives what stands behind the 0 of its answer."""

from quietaids.filters import answers_to, loudness
from quietaids.hearing import Band
from quietaids.quietness import come_to_one_number, is_proof, is_quiet, rows_told_in, told_steps
from quietaids.ranges import want_band_number, want_filter, want_gain, want_inputs, want_proof
from quietaids.ratios import lowest, spread
from quietaids.refusals import NotQuiet
from quietaids.rows import plain


def leak(aid, numbers, lists):
    want_filter(lists[0], lists[1])
    aid.put_leak(lists[0], lists[1])
    return []


def band(aid, numbers, lists):
    want_band_number(numbers[0])
    want_gain(numbers[1], numbers[2])
    want_filter(lists[0], lists[1])
    aid.put_band(numbers[0], Band(numbers[1], numbers[2], lists[0], lists[1]))
    return []


def gain(aid, numbers, lists):
    want_band_number(numbers[0])
    want_gain(numbers[1], numbers[2])
    changed = aid.band_at(numbers[0])
    changed.gain = lowest(numbers[1], numbers[2])
    return []


def mute(aid, numbers, lists):
    want_band_number(numbers[0])
    aid.band_at(numbers[0])
    aid.take_band_out(numbers[0])
    return []


def ring(aid, numbers, lists):
    return plain(aid.ring_row())


def quiet(aid, numbers, lists):
    told = told_steps(aid.ring_row())
    verdict = 1 if come_to_one_number(told) else 0
    return [verdict] + spread([lowest(row[-1], row[0]) for row in told if len(row) > 1])


def steps(aid, numbers, lists):
    told = []
    for row in told_steps(aid.ring_row()):
        told.append(len(row))
        told.extend(row)
    return told


def check(aid, numbers, lists):
    want_proof(lists[0])
    row = aid.ring_row()
    return [1 if is_proof(rows_told_in(lists[0]), row) else 0]


def loud(aid, numbers, lists):
    heard = aid.heard_in_all()
    if not is_quiet(heard[1]):
        raise NotQuiet()
    return spread([loudness(heard[0], heard[1])])


def play(aid, numbers, lists):
    want_inputs(lists[0])
    heard = aid.heard_in_all()
    return spread(answers_to(heard[0], heard[1], lists[0]))


# At each call's own number: what it does, how many whole numbers it has, and how many lists behind them.
CALLS = (leak, band, gain, mute, ring, quiet, steps, check, loud, play)
HOW_MANY_NUMBERS = (0, 3, 3, 1, 0, 0, 0, 0, 0, 0)
HOW_MANY_LISTS = (2, 2, 0, 0, 0, 0, 0, 1, 0, 1)


# The call is read to its end before it's looked at, so that a refused one is left behind whole.
def make_next_call(aid, reader):
    number = reader.take_number()
    numbers = reader.take_numbers(HOW_MANY_NUMBERS[number])
    lists = reader.take_lists(HOW_MANY_LISTS[number])
    call = CALLS[number]
    return call(aid, numbers, lists)
