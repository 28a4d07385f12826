"""Integers: which values are some, common multiples, inverses by a modulus, and prime factors."""

from math import lcm


def is_integer(value):
    """Tell whether the value is an integer; booleans are none."""
    return isinstance(value, int) and not isinstance(value, bool)


def is_natural(value):
    """Tell whether the value is an integer from 0 on."""
    return is_integer(value) and value >= 0


def common_multiple(numbers):
    """Return the least common multiple of a list of integers from 1 on, 1 if there are none."""
    found = 1
    for number in numbers:
        found = lcm(found, number)
    return found


def inverse(number, modulus):
    """Return the factor below the modulus that makes 1 of the number, which has no prime in common with it."""
    ahead, rest = modulus, number % modulus
    # Of ahead and rest, each is the factor of its name times number, but for multiples of the modulus.
    ahead_factor, rest_factor = 0, 1
    while rest > 0:
        times, left = divmod(ahead, rest)
        ahead, rest = rest, left
        ahead_factor, rest_factor = rest_factor, ahead_factor - times * rest_factor
    return ahead_factor % modulus


def prime_factors(number):
    """Return the ascending list of the primes that divide the number, which is some million at most."""
    found = []
    divisor = 2
    while divisor * divisor <= number:
        if number % divisor == 0:
            found.append(divisor)
        while number % divisor == 0:
            number = number // divisor
        divisor += 1
    if number > 1:
        found.append(number)
    return found
