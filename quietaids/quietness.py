"""When a row is quiet: its steps, and proofs made of them."""

from quietaids.rows import plain, reduced


# None if the row has no step. Its last number isn't 0.
def step_of(row):
    n = len(row) - 1
    first = row[0]
    last = row[n]
    if n < 1 or abs(last) >= abs(first):
        return None
    return plain([first * row[i] - last * row[n - i] for i in range(n)])


# The row's first number isn't 0.
def told_steps(row):
    current = plain(row)
    steps = [current]
    following = step_of(current)
    while following is not None:
        steps.append(following)
        following = step_of(following)
    return steps


def come_to_one_number(steps):
    return len(steps[-1]) == 1


def is_quiet(row):
    return come_to_one_number(told_steps(row))


# Rows that are alike have the same step, and a plain row is what every row alike to it is reduced to:
# so the proofs of a row are its told steps, each up to a factor above 0 and zeros at its end.
def is_proof(rows, row):
    steps = told_steps(row)
    return come_to_one_number(steps) and [reduced(given) for given in rows] == steps


# Rows, each behind how many numbers it has. What isn't such a list comes to no rows, which prove nothing.
def rows_told_in(numbers):
    rows = []
    place = 0
    while place < len(numbers):
        size = numbers[place]
        end = place + 1 + size
        if size < 1 or end > len(numbers):
            return []
        rows.append(numbers[place + 1:end])
        place = end
    return rows
