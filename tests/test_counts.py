"""Stage 7, point [17]: marks in one family or in two."""

import copy
import random
import unittest
from fractions import Fraction
from math import gcd, lcm

from bymarks.counts import below, common_share, nth
from bymarks.errors import InvalidFamilies, InvalidNumber, TooMany
from tests.samples import other_values, wrong_numbers
from tests.samples_families import (
    GREAT, SOME, family_of_runs, great_family, lies_in_family, marks_in_all, some_families, wrong_families,
)
from tests.samples_rules import fraction

ALL = {
    "below": lambda families: below(families, 3), "nth": lambda families: nth(families, 3), "common_share": common_share,
}


def pairs_of(families):
    return 1 if len(families) == 1 else len(families[0][1]) * len(families[1][1])


class TestAgainstGoingThrough(unittest.TestCase):

    def test_below_and_share(self):
        for families in some_families(1, 400):
            with self.subTest(families):
                given = copy.deepcopy(families)
                marks = marks_in_all(families)
                period = lcm(*[family[0] for family in families])
                self.assertEqual(common_share(families), fraction(Fraction(len(marks), period)))
                for bound in list(range(0, 2 * period + 2, 1 + period // 20)) + [period, 10 ** 50 + 7]:
                    turns, rest = divmod(bound, period)
                    right = turns * len(marks) + sum(mark < rest for mark in marks)
                    self.assertEqual(below(families, bound), right)
                self.assertEqual(families, given)

    def test_nth(self):
        told = {}
        for families in some_families(2, 500, most=2):
            marks = marks_in_all(families)
            if pairs_of(families) > 4 or not marks:
                continue
            period = lcm(*[family[0] for family in families])
            for number in list(range(0, 2 * len(marks) + 2, 1 + len(marks) // 10)) + [len(marks), 10 ** 50]:
                turns, rest = divmod(number, len(marks))
                self.assertEqual(nth(families, number), turns * period + marks[rest])
            told[len(families), pairs_of(families)] = True
        self.assertLessEqual({(1, 1), (2, 1), (2, 2), (2, 4)}, set(told))

    def test_all_runs_of_small_periods(self):
        for period, further in [(4, 6), (5, 3), (6, 6), (1, 4)]:
            runs = [(start, end) for start in range(period) for end in range(start + 1, period + 1)]
            others = [(start, end) for start in range(further) for end in range(start + 1, further + 1)]
            for run in runs:
                for other in others:
                    families = [(period, (run,)), (further, (other,))]
                    marks = marks_in_all(families)
                    whole = lcm(period, further)
                    self.assertEqual([below(families, bound) for bound in range(whole)],
                                     [sum(mark < bound for mark in marks) for bound in range(whole)])
                    if marks:
                        self.assertEqual([nth(families, k) for k in range(len(marks))], marks)


class TestEdges(unittest.TestCase):

    def test_without_a_run(self):
        empty = (10, ())
        for families in [[empty], [empty, SOME], [SOME, empty], [empty, empty], [(4, ((0, 1),)), (2, ((1, 2),))]]:
            self.assertEqual(common_share(families), (0, 1))
            self.assertEqual([below(families, bound) for bound in (0, 7, 10 ** 300)], [0, 0, 0])
            for number in (0, 1, 10 ** 300):
                with self.assertRaises(InvalidNumber):
                    nth(families, number)

    def test_one_whole_run(self):
        for period in (1, 7, GREAT):
            whole = (period, ((0, period),))
            for families in [[whole], [whole, whole], [whole, (3, ((0, 3),))], [(3, ((0, 3),)), whole]]:
                self.assertEqual(common_share(families), (1, 1))
                for bound in (0, 1, 10 ** 300):
                    self.assertEqual([below(families, bound), nth(families, bound)], [bound, bound])
            self.assertEqual(common_share([whole, SOME]), (1, 2))
            self.assertEqual([nth([whole, SOME], k) for k in range(6)], [0, 1, 2, 5, 6, 10])

    def test_many_runs(self):
        one, other = family_of_runs(64), family_of_runs(64, 777)
        marks = marks_in_all([one])
        self.assertEqual(common_share([one]), fraction(Fraction(len(marks), 1000)))
        self.assertEqual([nth([one], k) for k in range(len(marks))], marks)
        for families in [[one, (35, ((4, 20),))], [(35, ((4, 20),)), other], [family_of_runs(8), family_of_runs(8, 333)]]:
            marks = marks_in_all(families)
            period = lcm(families[0][0], families[1][0])
            self.assertEqual(common_share(families), fraction(Fraction(len(marks), period)))
            for bound in range(0, period, 1 + period // 9):
                self.assertEqual(below(families, bound), sum(mark < bound for mark in marks))


class TestGreat(unittest.TestCase):

    def test_one_family(self):
        family = (GREAT, ((5, 7), (GREAT - 1, GREAT)))
        self.assertEqual(common_share([family]), (3, GREAT))
        self.assertEqual([nth([family], k) for k in range(4)], [5, 6, GREAT - 1, GREAT + 5])
        self.assertEqual(nth([family], 3 * 10 ** 240 + 1), 10 ** 300 + 6)
        self.assertEqual([below([family], 10 ** 300 + k) for k in (5, 6, 7)], [3 * 10 ** 240 + k for k in (0, 1, 2)])

    def test_without_common_divisors(self):
        one, other = (GREAT, ((0, 3),)), (GREAT - 1, ((1, 3),))
        # A mark lies in both for each tuple of remainders, of which there are six.
        self.assertEqual(common_share([one, other]), fraction(Fraction(6, GREAT * (GREAT - 1))))
        remainders = [(x, y) for x in range(3) for y in (1, 2)]
        marks = sorted((x * (GREAT - 1) * -1 + y * GREAT) % (GREAT * (GREAT - 1)) for x, y in remainders)
        self.assertEqual([nth([one, other], k) for k in range(6)], marks)
        self.assertEqual([below([one, other], mark) for mark in marks], list(range(6)))
        self.assertEqual([below([one, other], mark + 1) for mark in marks], list(range(1, 7)))

    def test_with_common_divisors(self):
        part = 10 ** 30
        one, other = (part * 6, ((part, 2 * part),)), (part * 10, ((0, part), (part * 3, part * 5)))
        small = [(6, ((1, 2),)), (10, ((0, 1), (3, 5)))]
        self.assertEqual(common_share([one, other]), common_share(small))
        marks = marks_in_all(small)
        for k, mark in enumerate(marks):
            self.assertEqual([nth([one, other], part * k), nth([one, other], part * k + 7)], [mark * part, mark * part + 7])
            self.assertEqual(below([one, other], mark * part + 7), part * k + 7)

    def test_shares_by_remainders(self):
        chance = random.Random(3)
        for shared in (1, 1, 1, 1, 12, 10 ** 20):
            periods = [shared * chance.randrange(1, GREAT // shared) for _ in range(2)]
            one, other = [great_family(chance, period, 2) for period in periods]
            if gcd(*periods) == 1:
                shares = [Fraction(*common_share([family])) for family in (one, other)]
                self.assertEqual(common_share([one, other]), fraction(shares[0] * shares[1]))
            self.assertEqual(common_share([one, other]), common_share([other, one]))

    def test_nth_and_below_agree(self):
        chance = random.Random(4)
        for shape in [(1, 1), (2, 2), (1, 4), (4, 1)]:
            for shared in (1, 10 ** 25):
                periods = [shared * chance.randrange(GREAT // shared // 2, GREAT // shared) for _ in range(2)]
                families = [great_family(chance, period, many) for period, many in zip(periods, shape)]
                for number in (0, 10 ** 40 + 7, 10 ** 300):
                    mark = nth(families, number)
                    self.assertTrue(all(lies_in_family(family, mark) for family in families))
                    self.assertEqual([below(families, mark), below(families, mark + 1)], [number, number + 1])

    def test_below_adds_up(self):
        # What lies in the one family lies in the other one or in what this leaves out.
        chance = random.Random(5)
        for many in (1, 4, 8):
            one, other = great_family(chance, GREAT - 1, many), great_family(chance, GREAT - 12, 7)
            ends = [0] + [end for run in other[1] for end in run] + [other[0]]
            rest = (other[0], tuple(zip(ends[::2], ends[1::2])))
            for bound in (10 ** 30, GREAT, 10 ** 100, 10 ** 300):
                self.assertEqual(below([one, other], bound) + below([one, rest], bound), below([one], bound))


class TestErrors(unittest.TestCase):

    def test_wrong_lists(self):
        for wrong in [value for value in other_values()] + [[], [SOME] * 3, (SOME,), (SOME, SOME), SOME, {1: SOME}]:
            for name, function in ALL.items():
                with self.subTest(f"{name} {repr(wrong)[:100]}"):
                    with self.assertRaises(InvalidFamilies):
                        function(wrong)

    def test_wrong_families(self):
        for wrong in wrong_families():
            for families in [[wrong], [wrong, SOME], [SOME, wrong], [family_of_runs(64), wrong]]:
                for name, function in ALL.items():
                    with self.subTest(f"{name} {repr(families)[:100]}"):
                        with self.assertRaises(InvalidFamilies):
                            function(families)

    def test_right_families(self):
        for family in [SOME, (1, ()), (1, ((0, 1),)), (GREAT, ((0, GREAT),)), (GREAT, ((GREAT - 1, GREAT),)),
                       family_of_runs(64), (4, ((0, 1), (2, 3))), (4, ((0, 1), (2, 4)))]:
            below([family], 3)
            common_share([family])

    def test_too_many(self):
        sixty = [family_of_runs(13), family_of_runs(5)]
        for families in [sixty, sixty[::-1], [family_of_runs(64), family_of_runs(2)], [family_of_runs(64)] * 2]:
            for function in ALL.values():
                with self.assertRaises(TooMany):
                    function(families)
        for families in [[family_of_runs(64), (7, ((0, 7),))], [family_of_runs(8)] * 2, [(7, ()), family_of_runs(64)]]:
            below(families, 3)
            common_share(families)

    def test_too_many_for_nth(self):
        for shape in [(1, 5), (5, 1), (3, 2), (2, 3), (64, 1)]:
            families = [family_of_runs(shape[0]), family_of_runs(shape[1])]
            with self.assertRaises(TooMany):
                nth(families, 0)
            below(families, 0)
        for shape in [(1, 4), (4, 1), (2, 2), (1, 3)]:
            nth([family_of_runs(shape[0]), family_of_runs(shape[1], 777)], 0)
        # One family alone may have all its runs.
        self.assertEqual(nth([family_of_runs(64)], 0), 0)

    def test_numbers(self):
        for wrong in wrong_numbers():
            for families in [[SOME], [SOME, (7, ((0, 3),))], [(7, ())]]:
                for function in (below, nth):
                    with self.assertRaises(InvalidNumber):
                        function(families, wrong)

    def test_order(self):
        for wrong in (None, -1):
            for function in (below, nth):
                with self.assertRaises(InvalidFamilies):
                    function([SOME, (10, ((0, 11),))], wrong)
                with self.assertRaises(InvalidFamilies):
                    function([family_of_runs(64), family_of_runs(65)], wrong)
                with self.assertRaises(TooMany):
                    function([family_of_runs(64), SOME], wrong)
        # No mark lies in both of these.
        with self.assertRaises(TooMany):
            nth([family_of_runs(5), (1000, ((998, 999),))], 0)


if __name__ == "__main__":
    unittest.main()
