"""The helpers for integers."""

import unittest
from math import gcd

from bymarks.integers import inverse, is_integer, is_natural, prime_factors


class TestIntegers(unittest.TestCase):

    def test_what_is_an_integer(self):
        for value in (0, 1, -1, 10 ** 301, -10 ** 301):
            self.assertIs(is_integer(value), True)
            self.assertIs(is_natural(value), value >= 0)
        for value in (None, True, False, "1", "", (1,), [1], {1: 1}, b"1"):
            self.assertIs(is_integer(value), False)
            self.assertIs(is_natural(value), False)

    def test_inverse(self):
        for modulus in range(1, 40):
            for number in range(0, 120):
                if gcd(number, modulus) == 1:
                    found = inverse(number, modulus)
                    self.assertTrue(0 <= found < modulus)
                    self.assertEqual(number * found % modulus, 1 % modulus)
        self.assertEqual(inverse(10 ** 300 + 1, 10 ** 301) * (10 ** 300 + 1) % 10 ** 301, 1)

    def test_prime_factors(self):
        for number in range(1, 2000):
            right = [n for n in range(2, number + 1) if number % n == 0 and all(n % d for d in range(2, n))]
            self.assertEqual(prime_factors(number), right)
        self.assertEqual(prime_factors(1000000), [2, 5])
        self.assertEqual(prime_factors(999983), [999983])
        self.assertEqual(prime_factors(997 * 997), [997])


if __name__ == "__main__":
    unittest.main()
