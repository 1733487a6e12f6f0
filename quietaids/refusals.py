"""The refusals of a call, one error class for each."""


class OutOfRange(Exception):
    pass


class NoBand(Exception):
    pass


class NoRing(Exception):
    pass


class WrongSize(Exception):
    pass


class NotQuiet(Exception):
    pass
