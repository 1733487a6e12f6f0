"""Exact fractions: pairs of an upper and a lower number, in lowest terms, the lower one 1 or more."""

from quietaids.rows import common_of_two


def lowest(upper, lower):
    divisor = common_of_two(upper, lower)
    if lower < 0:
        divisor = -divisor
    return (upper // divisor, lower // divisor)


def sum_of_two(one, other):
    return lowest(one[0] * other[1] + other[0] * one[1], one[1] * other[1])


def product_of_two(one, other):
    return lowest(one[0] * other[0], one[1] * other[1])


def scaled_ratio(ratio, factor):
    return lowest(ratio[0] * factor, ratio[1])


# One fraction behind another, as an answer tells them.
def spread(ratios):
    numbers = []
    for ratio in ratios:
        numbers.append(ratio[0])
        numbers.append(ratio[1])
    return numbers
