"""Counting, without going through them, the marks of a window that lie in all of some families, two at most.

A window is told by low and high: the marks from low on that are less than high. Of two families, the one
with the greater period tells rows: the marks of a row have one quotient by this period.
"""

from math import gcd

from bymarks.floors import floor_sums
from bymarks.integers import common_multiple


def within(number, low, high):
    """Return the number, but low if it is less than that and high if it is greater."""
    return max(low, min(number, high))


def below_in_run(run, period, bound):
    """Return how many integers from 0 on that are less than the bound have a remainder in the run."""
    start, end = run
    return bound // period * (end - start) + within(bound % period, start, end) - start


def window_of_one(family, low, high):
    """Return how many marks of the window lie in the family."""
    period, runs = family
    return sum([below_in_run(run, period, high) - below_in_run(run, period, low) for run in runs])


def part_of_row(family, other, bound):
    """Return how many marks in the row of the bound, by the family, are less than it and lie in both families."""
    period, runs = family
    further, others = other
    first = bound // period * period
    return sum([
        below_in_run(inner, further, first + within(bound - first, start, end))
        - below_in_run(inner, further, first + start)
        for start, end in runs
        for inner in others
    ])


def offsets_of(family, other):
    """Return a dict from offsets to factors, by which the marks of a row that lie in both families are counted.

    With S(t) for the sum of h // (the other period) over all h less than t, a row that begins at t has as
    many of them as the sum of S(t + offset) times the factor over all offsets.
    """
    further, others = other
    ends = [(end, 1) for _, end in family[1]] + [(start, -1) for start, _ in family[1]]
    bars = [(further - start, 1) for start, _ in others] + [(further - end, -1) for _, end in others]
    found = {}
    for at, sign in ends:
        for bar, turn in bars:
            found[at + bar] = found.get(at + bar, 0) + sign * turn
    return found


def summed_rows(count, step, begin, by):
    """Return the sum of S(step * k + begin) for k less than count, S(t) being the sum of h // by for h less than t."""
    # With q for t // by, S(t) is q * t - by * (q * q + q) / 2.
    plain, by_place, squared = floor_sums(count, step, begin, by)
    return step * by_place + begin * plain - by * ((squared + plain) // 2)


def rows_of_two(family, other, first, last):
    """Return how many marks of the rows from first on and less than last lie in both families."""
    if first == last:
        return 0
    # Whole periods of the other family can be taken off each row, as its runs begin anew by them.
    step, begin = family[0] % other[0], family[0] * first % other[0]
    return sum([
        factor * summed_rows(last - first, step, begin + offset, other[0])
        for offset, factor in offsets_of(family, other).items()
        if factor != 0
    ])


def window_of_two(one, other, low, high):
    """Return how many marks of the window lie in both families."""
    if one[0] < other[0]:
        return window_of_two(other, one, low, high)
    rows = rows_of_two(one, other, low // one[0], high // one[0])
    return rows + part_of_row(one, other, high) - part_of_row(one, other, low)


def count_in(families, low, high):
    """Return how many marks of the window lie in all of the families."""
    if len(families) == 0:
        return high - low
    if len(families) == 1:
        return window_of_one(families[0], low, high)
    return window_of_two(families[0], families[1], low, high)


def common_in_circle(one, other, size):
    """Return how many places of a circle lie in both of two arcs, tuples (start, length) of less than its size."""
    return sum([
        max(0, min(one[0] + one[1], other[0] + other[1] + turn) - max(one[0], other[0] + turn))
        for turn in (-size, 0, size)
    ])


def pairs_of_runs(one, other, divisor):
    """Return how many tuples (x, y), x in the one run and y in the other, have one remainder by the divisor."""
    times, rest = divmod(one[1] - one[0], divisor)
    more, left = divmod(other[1] - other[0], divisor)
    both = common_in_circle((one[0] % divisor, rest), (other[0] % divisor, left), divisor)
    return times * more * divisor + times * left + more * rest + both


def common_period(families):
    """Return the least common multiple of the periods of the families."""
    return common_multiple([period for period, _ in families])


def count_in_period(families):
    """Return how many marks in a row, as many as the common period, lie in all of the families."""
    if len(families) < 2:
        return count_in(families, 0, common_period(families))
    one, other = families
    # Two remainders have one mark in a common period if they agree by the greatest common divisor.
    divisor = gcd(one[0], other[0])
    return sum([pairs_of_runs(run, inner, divisor) for run in one[1] for inner in other[1]])
