"""What a filter makes of its inputs, and how loud its answers to a click are altogether."""

from quietaids.ratios import lowest, product_of_two, scaled_ratio, sum_of_two
from quietaids.rows import common_divisor, divided, padded


# The sum of the row's numbers from the one at `start` on, each times the value that came so much earlier than t.
def weighed(row, start, values, t):
    return sum([row[i] * values[t - i] for i in range(start, min(len(row), t + 1))])


# All answers so far are kept over one lower number, so that each is brought to lowest terms only once.
def answers_to(upper, lower, inputs):
    first = lower[0]
    tops = []
    bottom = 1
    ratios = []
    for t in range(len(inputs)):
        top = bottom * weighed(upper, 0, inputs, t) - weighed(lower, 1, tops, t)
        bottom = bottom * first
        tops = [first * earlier for earlier in tops] + [top]
        ratios.append(lowest(top, bottom))
    return ratios


# A click's first inputs.
def click_inputs(how_many):
    return [1 if t == 0 else 0 for t in range(how_many)]


# What was answered before works on as inputs would: the filter with this upper row answers a click with just
# what follows. The beginning, its latest answer first, has as many as the lower row has numbers behind its first.
def upper_behind(beginning, lower):
    upper = []
    for t in range(len(beginning)):
        upper.append(-sum([number * answer for number, answer in zip(lower[t + 1:], beginning)]))
    return upper


# The two rows are of one length; what's given back is one number shorter.
def less_turned_end(row, beside):
    n = len(row) - 1
    return [beside[0] * row[i] - row[n] * beside[n - i] for i in range(n)]


# The lower row is quiet. With an upper row b and a lower row a of n + 1 numbers each, and b', a' made of
# them by less_turned_end(.., a), the squares come to (bn bn + (a0 a0 - an an) times those of b', a') over
# a0 a0. Zeros at a's end are harmless there. Common divisors are taken out to keep the numbers short.
def loudness(upper, lower):
    size = max(len(upper), len(lower))
    b = padded(upper, size)
    a = padded(lower, size)
    total = (0, 1)
    weight = (1, 1)
    while any(b):
        b_common = common_divisor(b)
        a_common = common_divisor(a)
        b = divided(b, b_common)
        a = divided(a, a_common)
        square = a[0] * a[0]
        weight = product_of_two(weight, (b_common * b_common, a_common * a_common * square))
        total = sum_of_two(total, scaled_ratio(weight, b[-1] * b[-1]))
        weight = scaled_ratio(weight, square - a[-1] * a[-1])
        b = less_turned_end(b, a)
        a = less_turned_end(a, a)
    return total
