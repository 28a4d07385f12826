"""Sets of marks as sums of families, by which their marks are counted and found.

A sum is a list of tuples (factor, families). For each mark, the sum of the factors of those families in
all of which it lies is 1 if the mark is in the set, otherwise 0. Of no families all marks lie in all.
"""

from bymarks.integers import common_multiple
from bymarks.shares import fraction
from bymarks.windows import common_period, count_in, count_in_period


def period_of(parts):
    """Return a number by which the set of a sum repeats itself."""
    return common_multiple([common_period(families) for _, families in parts])


def whole_count(parts, period):
    """Return how many marks of the set are less than the period, a multiple of all periods of the sum."""
    return sum([
        factor * count_in_period(families) * (period // common_period(families)) for factor, families in parts
    ])


def share_of_sum(parts):
    """Return the share of the set as a fraction."""
    period = period_of(parts)
    return fraction(whole_count(parts, period), period)


def window_of_sum(parts, low, high):
    """Return how many marks of the set are in the window."""
    return sum([factor * count_in(families, low, high) for factor, families in parts])


def below_of_sum(parts, bound):
    """Return how many marks of the set are less than the bound."""
    period = period_of(parts)
    turns, rest = divmod(bound, period)
    return turns * whole_count(parts, period) + window_of_sum(parts, 0, rest)


def nth_of_sum(parts, number):
    """Return the mark of the set ahead of which number others are; the set is not empty."""
    period = period_of(parts)
    turns, rest = divmod(number, whole_count(parts, period))
    low = 0
    # Windows are halved from low on, as the sums for short windows need fewer steps.
    for digit in reversed(range(period.bit_length())):
        count = window_of_sum(parts, low, low + (1 << digit))
        if count <= rest:
            rest = rest - count
            low = low + (1 << digit)
    return turns * period + low
