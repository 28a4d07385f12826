"""Shares: fractions, which are tuples (a, b) of integers in lowest terms, b from 1 on."""

from math import gcd

from bymarks.integers import common_multiple


def fraction(count, whole):
    """Return the fraction of so many of a whole, which is an integer from 1 on."""
    shared = gcd(count, whole)
    return count // shared, whole // shared


def total_of(parts):
    """Return the sum of the tuples (count, whole) of a list as a fraction."""
    common = common_multiple([whole for _, whole in parts])
    return fraction(sum([count * (common // whole) for count, whole in parts]), common)
