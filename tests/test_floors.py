"""Stage 7, point [16]: sums of quotients."""

import random
import unittest

from bymarks.errors import InvalidNumber
from bymarks.floors import floor_sums, sums
from tests.samples import other_values, wrong_numbers

GREAT = 10 ** 40


def added_up(count, step, begin, by):
    """The three sums, one by one."""
    quotients = [(step * k + begin) // by for k in range(count)]
    return (
        sum(quotients), sum(k * quotient for k, quotient in enumerate(quotients)),
        sum(quotient * quotient for quotient in quotients),
    )


class TestSums(unittest.TestCase):

    def test_all_small_numbers(self):
        for count in range(7):
            for step in range(7):
                for begin in range(7):
                    for by in range(1, 7):
                        self.assertEqual(sums(count, step, begin, by), added_up(count, step, begin, by))

    def test_some_numbers(self):
        chance = random.Random(1)
        for _ in range(1500):
            numbers = [chance.randrange(chance.choice([5, 40, 10 ** 6, GREAT])) for _ in range(3)]
            count, by = chance.randrange(60), chance.choice([1, 2, 7, numbers[0] + 1, numbers[2] + 1])
            self.assertEqual(sums(count, numbers[0], numbers[1], by), added_up(count, numbers[0], numbers[1], by))

    def test_edges(self):
        self.assertEqual(sums(0, 7, 5, 3), (0, 0, 0))
        self.assertEqual(sums(0, GREAT, GREAT, 1), (0, 0, 0))
        self.assertEqual(sums(1, GREAT, 17, 5), (3, 0, 9))
        self.assertEqual(sums(10, 0, 17, 5), (30, 135, 90))
        self.assertEqual(sums(10, 0, 4, 5), (0, 0, 0))
        self.assertEqual(sums(4, 3, 0, 1), (18, 42, 126))
        self.assertEqual(sums(4, 3, 2, 1), (26, 54, 214))
        self.assertIsInstance(sums(3, 2, 1, 4), tuple)

    def test_greatest(self):
        n = GREAT
        self.assertEqual(sums(n, 0, n, n), (n, n * (n - 1) // 2, n))
        self.assertEqual(sums(n, 1, 0, n), (0, 0, 0))
        self.assertEqual(sums(n, 1, 1, n), (1, n - 1, 1))
        self.assertEqual(sums(n, 1, n, n), (n, n * (n - 1) // 2, n))
        firsts, squares = n * (n - 1) // 2, (n - 1) * n * (2 * n - 1) // 6
        self.assertEqual(sums(n, n, 0, 1), (n * firsts, n * squares, n * n * squares))
        self.assertEqual(sums(n, 1, 0, 1), (firsts, squares, squares))

    def test_great_numbers_prime_to_one_another(self):
        # For by prime to step, the remainders of the first by numbers are all numbers less than by.
        for step, by in [(GREAT - 1, GREAT), (GREAT // 3, GREAT), (12345678901234567891, 10 ** 40 - 7)]:
            found = sums(by, step, 0, by)
            self.assertEqual(found[0], (step - 1) * (by - 1) // 2)
            self.assertEqual(sums(by, step, 0, by), floor_sums(by, step, 0, by))

    def test_in_two_parts(self):
        # The sums for all numbers are those of the first ones and those of the others, which begin further on.
        chance = random.Random(2)
        for _ in range(200):
            step, begin, by = [chance.randrange(1, GREAT) for _ in range(3)]
            count = chance.randrange(1, GREAT // step + 2)
            head = chance.randrange(count + 1)
            first = sums(head, step, begin, by)
            more = floor_sums(count - head, step, begin + step * head, by)
            whole = (first[0] + more[0], first[1] + more[1] + head * more[0], first[2] + more[2])
            self.assertEqual(sums(count, step, begin, by), whole)

    def test_a_great_range_in_two_parts(self):
        for head in (0, 1, GREAT // 7, GREAT // 2, GREAT - 1, GREAT):
            step, begin, by = GREAT - 12345, GREAT // 3, 3 ** 83
            first, more = sums(head, step, begin, by), floor_sums(GREAT - head, step, begin + step * head, by)
            whole = (first[0] + more[0], first[1] + more[1] + head * more[0], first[2] + more[2])
            self.assertEqual(sums(GREAT, step, begin, by), whole)


class TestInvalidNumber(unittest.TestCase):

    def test_each_place(self):
        right = (3, 4, 5, 6)
        wrong = [value for value in other_values() if not isinstance(value, int) or isinstance(value, bool)]
        for value in wrong + wrong_numbers() + [GREAT + 1, 10 ** 300, -GREAT]:
            for place in range(4):
                with self.subTest(f"{place} {repr(value)[:100]}"):
                    with self.assertRaises(InvalidNumber):
                        sums(*right[:place], value, *right[place + 1:])

    def test_bounds(self):
        for place in range(4):
            sums(*(3, 4, 5, 6)[:place], GREAT, *(3, 4, 5, 6)[place + 1:])
        with self.assertRaises(InvalidNumber):
            sums(3, 4, 5, 0)
        # Also where nothing is summed up.
        for wrong in [(0, -1, 0, 1), (0, 0, GREAT + 1, 1), (0, 0, 0, 0), (0, True, 0, 1)]:
            with self.assertRaises(InvalidNumber):
                sums(*wrong)


if __name__ == "__main__":
    unittest.main()
