"""What a call's numbers and lists must be within, or else the call is refused."""

from quietaids.refusals import OutOfRange

LAST_BAND = 2
GAIN_MOST = 1000
FILTER_MOST = 100
UPPER_LONGEST = 4
LOWER_LONGEST = 3
PROOF_LONGEST = 200
INPUTS_LONGEST = 16
INPUT_MOST = 1000


def want_between(number, least, most):
    if number < least or number > most:
        raise OutOfRange()


def want_list(numbers, shortest, longest, most):
    want_between(len(numbers), shortest, longest)
    for number in numbers:
        want_between(number, -most, most)


def want_band_number(i):
    want_between(i, 0, LAST_BAND)


def want_gain(n, d):
    want_between(n, -GAIN_MOST, GAIN_MOST)
    want_between(d, 1, GAIN_MOST)


def want_filter(up, low):
    want_list(up, 1, UPPER_LONGEST, FILTER_MOST)
    want_list(low, 1, LOWER_LONGEST, FILTER_MOST)
    if low[0] == 0:
        raise OutOfRange()


# Of a proof the length alone is told: its numbers may be any, and wrong ones make it no proof.
def want_proof(numbers):
    want_between(len(numbers), 0, PROOF_LONGEST)


def want_inputs(inputs):
    want_list(inputs, 0, INPUTS_LONGEST, INPUT_MOST)
