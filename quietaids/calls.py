"""The calls: each looks at its numbers and lists, and gives what stands behind the 0 of its answer."""

from quietaids.filters import answers_to, click_inputs, loudness, upper_behind
from quietaids.hearing import Band
from quietaids.quietness import come_to_one_number, is_proof, is_quiet, rows_told_in, told_steps
from quietaids.ranges import want_as_many, want_band_number, want_click, want_filter, want_freed, want_gain, want_inputs
from quietaids.ranges import want_later, want_proof, want_room, want_row, want_volume, want_volumes
from quietaids.ratios import lowest, spread
from quietaids.refusals import NoRing, NotQuiet
from quietaids.rows import counted, plain, scaled


def yes_or_no(holds):
    return 1 if holds else 0


def leak(aid, numbers, lists):
    want_filter(lists[0], lists[1])
    aid.put_leak(lists[0], lists[1])
    return []


def band(aid, numbers, lists):
    want_band_number(numbers[0])
    want_gain(numbers[1], numbers[2])
    want_filter(lists[0], lists[1])
    aid.put_band(numbers[0], Band(numbers[1], numbers[2], lists[0], lists[1]))
    return []


def gain(aid, numbers, lists):
    want_band_number(numbers[0])
    want_gain(numbers[1], numbers[2])
    changed = aid.band_at(numbers[0])
    changed.gain = lowest(numbers[1], numbers[2])
    return []


def mute(aid, numbers, lists):
    want_band_number(numbers[0])
    aid.band_at(numbers[0])
    aid.take_band_out(numbers[0])
    return []


def ring(aid, numbers, lists):
    return plain(aid.ring_row())


def quiet(aid, numbers, lists):
    made = told_steps(aid.ring_row())
    return [yes_or_no(come_to_one_number(made))] + spread([lowest(each[-1], each[0]) for each in made if len(each) > 1])


def steps(aid, numbers, lists):
    return counted(told_steps(aid.ring_row()))


def check(aid, numbers, lists):
    want_proof(lists[0])
    proven = aid.ring_row()
    return [yes_or_no(is_proof(rows_told_in(lists[0]), proven))]


def loud(aid, numbers, lists):
    heard = aid.heard_in_all()
    if not is_quiet(heard[1]):
        raise NotQuiet()
    return spread([loudness(heard[0], heard[1])])


def play(aid, numbers, lists):
    want_inputs(lists[0])
    heard = aid.heard_in_all()
    return spread(answers_to(heard[0], heard[1], lists[0]))


def freed(aid, numbers, lists):
    want_freed(numbers[0], lists[0])
    lower = plain(aid.ring_row())
    want_as_many(lists[0], lower)
    upper = upper_behind(lists[0], lower)
    following = answers_to(upper, lower, click_inputs(numbers[0]))
    if not is_quiet(lower):
        return [0] + spread(following)
    return [1] + spread([loudness(upper, lower)] + following)


def volume(aid, numbers, lists):
    want_volumes(numbers[0], numbers[1])
    v = 0
    while v <= numbers[1] and aid.is_quiet_at(v, numbers[0]):
        v += 1
    return [0] if v == 0 else [1, v - 1]


def alone(aid, numbers, lists):
    verdicts = [yes_or_no(is_quiet(aid.leak_low))]
    for each in aid.bands:
        verdicts.append(-1 if each is None else yes_or_no(is_quiet(each.low)))
    return verdicts


# A first number of 0 is refused like a ring that isn't there, for the same reason: there's nothing to divide by.
def row(aid, numbers, lists):
    want_row(lists[0])
    if lists[0][0] == 0:
        raise NoRing()
    made = told_steps(lists[0])
    return [yes_or_no(come_to_one_number(made))] + counted(made)


def ends(aid, numbers, lists):
    rung = plain(aid.ring_row())
    return [sum(rung), sum(rung[0::2]) - sum(rung[1::2])]


def later(aid, numbers, lists):
    want_band_number(numbers[0])
    want_later(numbers[1])
    changed = aid.band_at(numbers[0])
    up = [0] * numbers[1] + changed.up
    want_room(up)
    changed.up = up
    return []


def turn(aid, numbers, lists):
    want_band_number(numbers[0])
    changed = aid.band_at(numbers[0])
    changed.up = scaled(changed.up, -1)
    return []


def told(aid, numbers, lists):
    made = counted([aid.leak_up, aid.leak_low])
    for each in aid.bands:
        if each is None:
            made.append(0)
        else:
            made.extend([1] + spread([each.gain]) + counted([each.up, each.low]))
    return made


def click(aid, numbers, lists):
    want_click(numbers[0])
    heard = aid.heard_in_all()
    return spread(answers_to(heard[0], heard[1], click_inputs(numbers[0])))


def quiet_at(aid, numbers, lists):
    want_volume(numbers[0], numbers[1])
    return [yes_or_no(aid.is_quiet_at(numbers[0], numbers[1]))]


# At each call's own number: what it does, how many whole numbers it has, and how many lists behind them.
CALLS = (leak, band, gain, mute, ring, quiet, steps, check, loud, play,
         freed, volume, alone, row, ends, later, turn, told, click, quiet_at)
HOW_MANY_NUMBERS = (0, 3, 3, 1, 0, 0, 0, 0, 0, 0, 1, 2, 0, 0, 0, 2, 1, 0, 1, 2)
HOW_MANY_LISTS = (2, 2, 0, 0, 0, 0, 0, 1, 0, 1, 1, 0, 0, 1, 0, 0, 0, 0, 0, 0)


# The call is read to its end before it's looked at, so that a refused one is left behind whole.
def make_next_call(aid, reader):
    number = reader.take_number()
    numbers = reader.take_numbers(HOW_MANY_NUMBERS[number])
    lists = reader.take_lists(HOW_MANY_LISTS[number])
    call = CALLS[number]
    return call(aid, numbers, lists)
