"""Tallies: sets of marks as sums of classes, by which marks are counted without going through them.

A tally is a list of tuples (factor, modulus, remainder). For each mark, the sum of the factors of
those classes (modulus, remainder) in which it lies is 1 if the mark is in the set, otherwise 0.
"""

from math import gcd, lcm

from bymarks.classes import common_class
from bymarks.integers import common_multiple
from bymarks.shares import fraction


def class_table(at, count):
    """Return the table of the class number at, of so many classes.

    A table tells of a set by bits: the bit number k whether the marks that lie in just those classes
    whose bits are set in k are in the set.
    """
    return sum([1 << choice for choice in range(1 << count) if choice >> at & 1])


def full_table(count):
    """Return the table of all marks, for so many classes."""
    return (1 << (1 << count)) - 1


def factors_of(table, count):
    """Return, for each choice of the classes, the factor of the marks that lie in all that are chosen."""
    factors = [table >> choice & 1 for choice in range(1 << count)]
    # What the choices without a class tell already is taken off those with it, for one class after the other.
    for at in range(count):
        for choice in range(1 << count):
            if choice >> at & 1:
                factors[choice] = factors[choice] - factors[choice ^ (1 << at)]
    return factors


def commons_of(classes):
    """Return, for each choice of the classes, the class of the marks that lie in all that are chosen, or None."""
    commons = [(1, 0)]
    for one in classes:
        commons = commons + [None if common is None else common_class(common, one) for common in commons]
    return commons


def tally_of(classes, table):
    """Return the tally of the set that has this table for the classes."""
    factors = factors_of(table, len(classes))
    commons = commons_of(classes)
    found = {}
    for choice in range(len(commons)):
        common = commons[choice]
        if common is not None:
            found[common] = found.get(common, 0) + factors[choice]
    return [(found[common], common[0], common[1]) for common in sorted(found) if found[common] != 0]


def common_period(tally):
    """Return the least common multiple of the moduli of the tally: the set repeats itself by it."""
    return common_multiple([modulus for _, modulus, _ in tally])


def count_of(tally, period):
    """Return how many marks in a row of this period, a multiple of all moduli, are in the set."""
    return sum([part[0] * (period // part[1]) for part in tally])


def share_of(tally):
    """Return the share of the set as a fraction."""
    period = common_period(tally)
    return fraction(count_of(tally, period), period)


def below_of(tally, bound):
    """Return how many marks of the set are less than the bound, an integer from 0 on."""
    return sum([factor * ((bound - remainder + modulus - 1) // modulus) for factor, modulus, remainder in tally])


def nth_of(tally, number):
    """Return the mark of the set ahead of which number others are; the set is not empty."""
    period = common_period(tally)
    count = count_of(tally, period)
    turns, rest = divmod(number, count)
    # The marks of one class below a bound are fewer or more by less than 1 than its share tells. So the
    # marks of the set are so by less than the slack, and this leaves a small part of the period to halve.
    slack = sum([abs(part[0]) for part in tally])
    low = max(0, (rest - slack) * period // count)
    high = min(period - 1, (rest + slack) * period // count)
    while low < high:
        middle = (low + high) // 2
        if below_of(tally, middle + 1) > rest:
            high = middle
        else:
            low = middle + 1
    return turns * period + low


def least_of(tally):
    """Return the least mark of the set, or None."""
    if share_of(tally)[0] == 0:
        return None
    return nth_of(tally, 0)


def is_period(tally, step):
    """Tell whether the set stays the same if it is moved by this step."""
    period = common_period(tally)
    both = sum([
        one[0] * other[0] * (period // lcm(one[1], other[1]))
        for one in tally
        for other in tally
        if (one[2] + step - other[2]) % gcd(one[1], other[1]) == 0
    ])
    # The moved set has the same share, so they are one set if their common marks have this share, too.
    return both == count_of(tally, period)


def least_period(tally, primes):
    """Return the least period of the set, primes being at least those that divide a modulus of the tally."""
    period = common_period(tally)
    # All periods are multiples of the least one, so primes may be taken off in any order.
    for prime in primes:
        while period % prime == 0 and is_period(tally, period // prime):
            period = period // prime
    return period
