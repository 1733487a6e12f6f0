"""Answers a line of calls on one new aid."""

from quietaids.calls import make_next_call
from quietaids.hearing import Aid
from quietaids.reading import Reader
from quietaids.refusals import NoBand, NoRing, NotQuiet, OutOfRange, WrongSize


def answer_next(aid, reader):
    try:
        return [0] + make_next_call(aid, reader)
    except OutOfRange:
        return [-1]
    except NoBand:
        return [-3]
    except NoRing:
        return [-5]
    except WrongSize:
        return [-6]
    except NotQuiet:
        return [-8]


def answers(calls):
    aid = Aid()
    reader = Reader(calls)
    given = []
    while not reader.is_at_end():
        answer = answer_next(aid, reader)
        given.append(len(answer))
        given.extend(answer)
    return given
