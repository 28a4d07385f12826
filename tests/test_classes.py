"""Stage 1, points [4] and [5]: classes."""

import random
import unittest
from math import gcd, lcm

from bymarks.classes import check_class, is_within, left_out, meet, meet_all
from bymarks.errors import InvalidClass
from tests.samples import in_none, some_classes, wrong_class_lists, wrong_classes

SMALL = [(modulus, remainder) for modulus in range(1, 11) for remainder in range(modulus)]
GREAT = 10 ** 30 + 57


def marks_of(classes, bound):
    """Go through the marks below the bound for those that lie in all of the classes."""
    return [mark for mark in range(bound) if all(mark % modulus == remainder for modulus, remainder in classes)]


def lies(mark, one):
    return mark % one[0] == one[1]


class TestCheckClass(unittest.TestCase):

    def test_right_classes(self):
        for value in [(1, 0), (2, 1), (4, 0), (4, 3), (GREAT, GREAT - 1), (10 ** 301 - 1, 10 ** 301 - 2)]:
            self.assertIsNone(check_class(value))

    def test_wrong_classes(self):
        for value in wrong_classes():
            with self.subTest(repr(value)[:100]):
                with self.assertRaises(InvalidClass):
                    check_class(value)


class TestWrongArguments(unittest.TestCase):

    def refused(self, function, *arguments):
        with self.subTest(f"{function.__name__}{repr(arguments)[:100]}"):
            with self.assertRaises(InvalidClass):
                function(*arguments)

    def test_each_class(self):
        for wrong in wrong_classes():
            for function in (meet, is_within):
                self.refused(function, wrong, (4, 1))
                self.refused(function, (4, 1), wrong)
                self.refused(function, wrong, wrong)
            self.refused(left_out, wrong, [])
            self.refused(left_out, wrong, [(4, 1), (6, 3)])
            self.refused(left_out, wrong, None)

    def test_each_list(self):
        for wrong in wrong_class_lists(40):
            self.refused(meet_all, wrong)
        for wrong in wrong_class_lists(10):
            self.refused(left_out, (4, 1), wrong)

    def test_longest_lists(self):
        self.assertEqual(meet_all([(4, 1)] * 40), ("class", (4, 1)))
        self.refused(meet_all, [(4, 1)] * 41)
        self.assertEqual(left_out((2, 1), [(4, 1)] * 10), 3)
        self.refused(left_out, (2, 1), [(4, 1)] * 11)

    def test_ahead_of_the_answer(self):
        # The wrong class stands behind a bar, behind a cover and behind classes that are not covered.
        self.refused(meet_all, [(2, 0), (2, 1), (2, 2)])
        self.refused(left_out, (2, 0), [(2, 0), (2, 2)])
        self.refused(left_out, (2, 0), [(2, 1), (2, 2)])


class TestMeet(unittest.TestCase):

    def test_against_going_through(self):
        for one in SMALL:
            for other in SMALL:
                common = marks_of([one, other], lcm(one[0], other[0]))
                found = meet(one, other)
                self.assertEqual(found, (lcm(one[0], other[0]), common[0]) if common else None)

    def test_great_moduli(self):
        chance = random.Random(5)
        for digits in (30, 60, 301):
            for _ in range(50):
                shared = chance.randint(1, 10 ** chance.randint(0, digits // 2))
                moduli = [shared * chance.randint(1, 10 ** digits // shared - 1) for _ in range(2)]
                mark = chance.randrange(10 ** (digits * 2))
                classes = [(modulus, mark % modulus) for modulus in moduli]
                both = meet(classes[0], classes[1])
                self.assertEqual(both, (lcm(*moduli), mark % lcm(*moduli)))
                moved = (moduli[1], (mark + 1) % moduli[1])
                self.assertEqual(meet(classes[0], moved) is None, gcd(*moduli) > 1)

    def test_great_multiples(self):
        one, other = (GREAT, 12345), (GREAT * (10 ** 40 + 3), 12345 + 7 * GREAT)
        self.assertEqual(meet(one, other), other)
        self.assertEqual(meet(other, one), other)
        self.assertIsNone(meet(one, (other[0], other[1] + 1)))
        self.assertEqual(meet(one, one), one)
        self.assertEqual(meet((1, 0), one), one)


class TestMeetAll(unittest.TestCase):

    def compare(self, classes):
        given = list(classes)
        found = meet_all(classes)
        self.assertEqual(classes, given)
        bound = lcm(*[one[0] for one in classes])
        common = marks_of(classes, bound)
        if common:
            self.assertEqual(found, ("class", (bound, common[0])))
            return "class"
        bars = [
            (i, j) for j in range(len(classes)) for i in range(j)
            if not marks_of([classes[i], classes[j]], lcm(classes[i][0], classes[j][0]))
        ]
        self.assertEqual(found, ("bar",) + min(bars))
        return "bar" if len(bars) == 1 else "bars"

    def test_against_going_through(self):
        chance = random.Random(6)
        told = []
        for _ in range(400):
            many = chance.randint(1, 6)
            told.append(self.compare(some_classes(chance, many, 10)))
            mark = chance.randrange(2520)
            one = [(modulus, mark % modulus) for modulus in [chance.randint(1, 10) for _ in range(many)]]
            self.assertEqual(self.compare(one), "class")
        self.assertEqual(sorted(set(told)), ["bar", "bars", "class"])

    def test_empty_list(self):
        self.assertEqual(meet_all([]), ("class", (1, 0)))

    def test_one_class(self):
        self.assertEqual(meet_all([(GREAT, 5)]), ("class", (GREAT, 5)))

    def test_least_bar(self):
        # The pair (0, 3) is ahead of (1, 2), although its second place is behind.
        self.assertEqual(meet_all([(4, 0), (3, 0), (3, 1), (4, 1)]), ("bar", 0, 3))
        self.assertEqual(meet_all([(1, 0), (2, 0), (2, 1), (2, 0)]), ("bar", 1, 2))
        self.assertEqual(meet_all([(5, 1)] * 38 + [(7, 1), (5, 2)]), ("bar", 0, 39))
        self.assertEqual(meet_all([(2, 0)] * 38 + [(7, 1), (7, 2)]), ("bar", 38, 39))

    def test_great_moduli(self):
        chance = random.Random(7)
        mark = chance.randrange(10 ** 1000)
        moduli = [chance.randint(1, 10 ** 30) for _ in range(40)]
        classes = [(modulus, mark % modulus) for modulus in moduli]
        whole = lcm(*moduli)
        self.assertEqual(meet_all(classes), ("class", (whole, mark % whole)))
        classes[30] = (GREAT * 2, 1)
        classes[35] = (GREAT * 3, 2)
        self.assertEqual(meet_all(classes)[0], "bar")
        self.assertEqual(meet_all(classes[30:31] + classes[35:36]), ("bar", 0, 1))


class TestIsWithin(unittest.TestCase):

    def test_against_going_through(self):
        for one in SMALL:
            for other in SMALL:
                inside = all(lies(mark, other) for mark in marks_of([one], lcm(one[0], other[0])))
                self.assertIs(is_within(one, other), inside)

    def test_great_moduli(self):
        one, other = (GREAT * 10 ** 20, 7 + 3 * GREAT), (GREAT, 7)
        self.assertIs(is_within(one, other), True)
        self.assertIs(is_within(other, one), False)
        self.assertIs(is_within((one[0], one[1] + 1), other), False)
        self.assertIs(is_within(other, other), True)
        self.assertIs(is_within((GREAT + 1, 7), other), False)
        self.assertIs(is_within(other, (1, 0)), True)


class TestLeftOut(unittest.TestCase):

    def compare(self, within, classes):
        given = list(classes)
        found = left_out(within, classes)
        self.assertEqual(classes, given)
        bound = lcm(within[0], *[one[0] for one in classes])
        left = [mark for mark in marks_of([within], bound) if in_none(mark, classes)]
        self.assertEqual(found, left[0] if left else None)
        return found

    def test_against_going_through(self):
        chance = random.Random(8)
        found = []
        for _ in range(600):
            within = chance.choice(SMALL)
            found.append(self.compare(within, some_classes(chance, chance.randint(0, 10), 6)))
        self.assertTrue(None in found and len(set(found)) > 10)

    def test_two_classes(self):
        for within in SMALL[:15]:
            for one in SMALL[:15]:
                for other in SMALL[:15]:
                    self.compare(within, [one, other])

    def test_covered_or_not(self):
        cover = [(2, 0), (3, 0), (4, 1), (6, 5), (12, 7)]
        self.assertIsNone(left_out((1, 0), cover))
        for k in range(5):
            self.assertEqual(left_out((1, 0), cover[:k] + cover[k + 1:]), self.compare((1, 0), cover[:k] + cover[k + 1:]))
            self.assertIsNotNone(left_out((1, 0), cover[:k] + cover[k + 1:]))

    def test_no_classes(self):
        self.assertEqual(left_out((GREAT, 12), []), 12)

    def test_last_mark_that_can_be_the_least(self):
        # Of 1,024 marks in a row of the class within, the last one alone is left.
        halves = [(2 ** k, 2 ** (k - 1) - 1) for k in range(1, 11)]
        self.assertEqual(left_out((1, 0), halves), 1023)
        within = (GREAT, 5)
        moved = [(GREAT * modulus, 5 + GREAT * remainder) for modulus, remainder in halves]
        self.assertEqual(left_out(within, moved), 5 + GREAT * 1023)
        self.assertEqual(left_out((1, 0), halves[:9] + [(512, 511)]), None)

    def test_great_moduli(self):
        one = (GREAT, 3)
        self.assertIsNone(left_out((GREAT * 7, 3 + GREAT), [one]))
        self.assertEqual(left_out(one, [(GREAT * 7, 3), (10 ** 301 - 1, 3 + GREAT)]), 3 + 2 * GREAT)
        self.assertIsNone(left_out(one, [(GREAT * 3, 3), (GREAT * 3, 3 + GREAT), (GREAT * 3, 3 + 2 * GREAT)]))


if __name__ == "__main__":
    unittest.main()
