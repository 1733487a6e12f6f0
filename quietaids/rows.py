"""Rows of whole numbers: their sums and products, and rows made plain."""


def common_of_two(one, other):
    while other != 0:
        rest = one % other
        one = other
        other = rest
    return abs(one)


# 0 for a row of zeros alone.
def common_divisor(row):
    found = 0
    for number in row:
        found = common_of_two(number, found)
    return found


def scaled(row, factor):
    return [factor * number for number in row]


# The divisor is one that divides every number of the row.
def divided(row, divisor):
    return [number // divisor for number in row]


def padded(row, size):
    return row + [0] * (size - len(row))


def added(one, other):
    size = max(len(one), len(other))
    return [left + right for left, right in zip(padded(one, size), padded(other, size))]


def product(one, other):
    made = [0] * (len(one) + len(other) - 1)
    for i, left in enumerate(one):
        for j, right in enumerate(other):
            made[i + j] += left * right
    return made


def without_end_zeros(row):
    size = len(row)
    while size > 0 and row[size - 1] == 0:
        size -= 1
    return row[:size]


# Keeps the signs: two rows are alike just if they come to the same here, and not to an empty row.
def reduced(row):
    kept = without_end_zeros(row)
    return divided(kept, common_divisor(kept))


# The row's first number isn't 0: else no turning round would bring it above 0.
def plain(row):
    kept = reduced(row)
    if kept[0] < 0:
        return scaled(kept, -1)
    return kept


# One row behind another, as an answer tells them: each behind how many numbers it has.
def counted(rows):
    numbers = []
    for row in rows:
        numbers.append(len(row))
        numbers.extend(row)
    return numbers
