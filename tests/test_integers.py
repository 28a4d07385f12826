"""The helpers for integers and for shares."""

import unittest
from fractions import Fraction
from math import gcd, lcm

from bymarks.integers import common_multiple, inverse, is_integer, is_natural, prime_factors
from bymarks.shares import fraction, total_of


class TestIntegers(unittest.TestCase):

    def test_what_is_an_integer(self):
        for value in (0, 1, -1, 10 ** 301, -10 ** 301):
            self.assertIs(is_integer(value), True)
            self.assertIs(is_natural(value), value >= 0)
        for value in (None, True, False, "1", "", (1,), [1], {1: 1}, b"1"):
            self.assertIs(is_integer(value), False)
            self.assertIs(is_natural(value), False)

    def test_common_multiple(self):
        self.assertEqual(common_multiple([]), 1)
        for numbers in ([7], [4, 6], [4, 6, 9, 1], [10 ** 60, 10 ** 60 - 1, 12], [5] * 40):
            self.assertEqual(common_multiple(numbers), lcm(*numbers))

    def test_inverse(self):
        for modulus in range(1, 40):
            for number in range(0, 120):
                if gcd(number, modulus) == 1:
                    found = inverse(number, modulus)
                    self.assertTrue(0 <= found < modulus)
                    self.assertEqual(number * found % modulus, 1 % modulus)
        self.assertEqual(inverse(10 ** 300 + 1, 10 ** 301) * (10 ** 300 + 1) % 10 ** 301, 1)

    def test_prime_factors(self):
        for number in range(1, 2000):
            right = [n for n in range(2, number + 1) if number % n == 0 and all(n % d for d in range(2, n))]
            self.assertEqual(prime_factors(number), right)
        self.assertEqual(prime_factors(1000000), [2, 5])
        self.assertEqual(prime_factors(999983), [999983])
        self.assertEqual(prime_factors(997 * 997), [997])


class TestShares(unittest.TestCase):

    def test_fraction(self):
        for whole in range(1, 20):
            for count in range(0, 40):
                right = Fraction(count, whole)
                self.assertEqual(fraction(count, whole), (right.numerator, right.denominator))

    def test_total(self):
        self.assertEqual(total_of([]), (0, 1))
        for parts in ([(1, 2)], [(1, 2), (1, 3), (1, 6)], [(0, 5), (3, 4)], [(2, 4), (2, 4), (1, 10 ** 30)]):
            right = sum(Fraction(*part) for part in parts)
            self.assertEqual(total_of(parts), (right.numerator, right.denominator))


if __name__ == "__main__":
    unittest.main()
