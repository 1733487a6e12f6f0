"""What a call's numbers and lists must be within, or else the call is refused."""

from quietaids.refusals import OutOfRange, WrongSize

LAST_BAND = 2
GAIN_MOST = 1000
FILTER_MOST = 100
UPPER_LONGEST = 4
LOWER_LONGEST = 3
PROOF_LONGEST = 200
INPUTS_LONGEST = 16
INPUT_MOST = 1000
ANSWERS_LONGEST = 16
BEGINNING_LONGEST = 12
BEGINNING_MOST = 1000
PARTS_MOST = 100
VOLUMES_MOST = 60
ROW_LONGEST = 12
ROW_MOST = 1000000
LATER_MOST = 3
VOLUME_MOST = 1000


def want_between(number, least, most):
    if number < least or number > most:
        raise OutOfRange()


def want_list(numbers, shortest, longest, most):
    want_between(len(numbers), shortest, longest)
    for number in numbers:
        want_between(number, -most, most)


def want_band_number(i):
    want_between(i, 0, LAST_BAND)


def want_gain(n, d):
    want_between(n, -GAIN_MOST, GAIN_MOST)
    want_between(d, 1, GAIN_MOST)


def want_filter(up, low):
    want_list(up, 1, UPPER_LONGEST, FILTER_MOST)
    want_list(low, 1, LOWER_LONGEST, FILTER_MOST)
    if low[0] == 0:
        raise OutOfRange()


# Of a proof the length alone is told: its numbers may be any, and wrong ones make it no proof.
def want_proof(numbers):
    want_between(len(numbers), 0, PROOF_LONGEST)


def want_inputs(inputs):
    want_list(inputs, 0, INPUTS_LONGEST, INPUT_MOST)


def want_freed(n, beginning):
    want_between(n, 0, ANSWERS_LONGEST)
    want_list(beginning, 0, BEGINNING_LONGEST, BEGINNING_MOST)


# As many as the plain row has numbers behind its first.
def want_as_many(beginning, row):
    if len(beginning) != len(row) - 1:
        raise WrongSize()


def want_volumes(d, m):
    want_between(d, 1, PARTS_MOST)
    want_between(m, 0, VOLUMES_MOST)


def want_row(numbers):
    want_list(numbers, 1, ROW_LONGEST, ROW_MOST)


def want_later(k):
    want_between(k, 0, LATER_MOST)


def want_room(up):
    if len(up) > UPPER_LONGEST:
        raise WrongSize()


def want_click(n):
    want_between(n, 1, ANSWERS_LONGEST)


def want_volume(n, d):
    want_between(n, 0, VOLUME_MOST)
    want_between(d, 1, VOLUME_MOST)
