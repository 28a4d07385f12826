"""Stage 8, points [18] and [19]: patterns of agreement."""

import copy
import random
import unittest
from fractions import Fraction
from math import lcm

from bymarks.deals import check_deal, linear, plain, split
from bymarks.errors import InvalidDeal, InvalidDeals, InvalidMark, InvalidNumber, InvalidPattern, TooMany
from bymarks.patterns import below_pattern, nth_pattern, pattern_of, patterns
from tests.samples import nested, other_values, wrong_numbers
from tests.samples_deals import GREAT, PLAIN, deal_of_pieces, place_in, product_of_pieces, some_lists, wrong_deals
from tests.samples_rules import fraction

ONE = ((0,),)
ALL = {
    "patterns": patterns, "pattern_of": lambda deals: pattern_of(deals, 3),
    "below_pattern": lambda deals: below_pattern(deals, every(deals), 3),
    "nth_pattern": lambda deals: nth_pattern(deals, every(deals), 0),
}
FOUR = [plain(4), plain(5), plain(6), plain(7)]


def every(deals):
    """The pattern by which all deals of a list agree."""
    return (tuple(range(len(deals))),) if isinstance(deals, list) else ONE


def all_patterns(many):
    """All patterns of so many deals."""
    found = [[]]
    for number in range(many):
        longer = [pattern + [(number,)] for pattern in found]
        for pattern in found:
            for k, group in enumerate(pattern):
                longer.append(pattern[:k] + [group + (number,)] + pattern[k + 1:])
        found = longer
    return [tuple(pattern) for pattern in found]


def pattern_by_words(deals, mark):
    """The pattern of a mark, by the words of the document."""
    places = [place_in(deal, mark) for deal in deals]
    return tuple(
        tuple(k for k, further in enumerate(places) if further == place)
        for number, place in enumerate(places) if place not in places[:number]
    )


def marks_by_pattern(deals):
    """A common period, and a dict from the patterns to their marks that are less."""
    period = lcm(*[deal[0] for deal in deals])
    found = {}
    for mark in range(period):
        found.setdefault(pattern_by_words(deals, mark), []).append(mark)
    return period, found


def lists_to_count():
    """Lists of one to four deals with small periods, within all limits."""
    return some_lists(1, 120, [1, 2, 3]) + some_lists(2, 60, [4], most=2, pieces=4)


class TestAgainstGoingThrough(unittest.TestCase):

    def test_patterns(self):
        seen = {}
        for deals in lists_to_count():
            with self.subTest(deals):
                given = copy.deepcopy(deals)
                period, found = marks_by_pattern(deals)
                rows = [(pattern, fraction(Fraction(len(marks), period)), marks[0]) for pattern, marks in found.items()]
                self.assertEqual(patterns(deals), sorted(rows, key=lambda row: row[2]))
                self.assertEqual(deals, given)
                seen.update({pattern: True for pattern in found})
        self.assertEqual(set(seen), {pattern for many in (1, 2, 3, 4) for pattern in all_patterns(many)})

    def test_pattern_of(self):
        for deals in lists_to_count() + some_lists(3, 60, [4]):
            for mark in list(range(60)) + [10 ** 300]:
                self.assertEqual(pattern_of(deals, mark), pattern_by_words(deals, mark))

    def test_below_and_nth(self):
        for deals in lists_to_count()[::2]:
            period, found = marks_by_pattern(deals)
            for pattern in all_patterns(len(deals)):
                marks = found.get(pattern, [])
                for bound in [0, 1, 7, period // 2, period, 2 * period + 5, 10 ** 30]:
                    turns, rest = divmod(bound, period)
                    right = turns * len(marks) + sum(mark < rest for mark in marks)
                    self.assertEqual(below_pattern(deals, pattern, bound), right)
                for number in [0, 1, len(marks) - 1, len(marks), 10 ** 30] if marks else []:
                    turns, rest = divmod(abs(number), len(marks))
                    self.assertEqual(nth_pattern(deals, pattern, abs(number)), turns * period + marks[rest])
                if not marks:
                    for number in (0, 1, 10 ** 300):
                        with self.assertRaises(InvalidNumber):
                            nth_pattern(deals, pattern, number)


class TestGreatPeriods(unittest.TestCase):

    def compare(self, deals):
        """Compare what is told of the patterns with one another and with single marks."""
        found = patterns(deals)
        self.assertEqual(sum(Fraction(*share) for _, share, _ in found), 1)
        self.assertEqual([mark for _, _, mark in found], sorted(mark for _, _, mark in found))
        self.assertEqual(found[0][2], 0)
        for pattern, share, mark in found:
            self.assertEqual(share, fraction(Fraction(*share)))
            self.assertEqual(pattern_by_words(deals, mark), pattern)
            self.assertEqual([nth_pattern(deals, pattern, 0), below_pattern(deals, pattern, mark)], [mark, 0])
            for number in (1, 10 ** 20, 10 ** 300):
                further = nth_pattern(deals, pattern, number)
                self.assertEqual(pattern_by_words(deals, further), pattern)
                self.assertEqual([below_pattern(deals, pattern, further + k) for k in (0, 1)], [number, number + 1])
        for bound in (0, 10 ** 12, 10 ** 40, 10 ** 300):
            counts = [below_pattern(deals, pattern, bound) for pattern in all_patterns(len(deals))]
            self.assertEqual(sum(counts), bound)
        return found

    def test_one_and_two_deals(self):
        self.assertEqual(patterns([plain(GREAT)]), [(ONE, (1, 1), 0)])
        found = self.compare([plain(GREAT), plain(GREAT - 1)])
        self.assertEqual(found, [(((0, 1),), (1, GREAT), 0), (((0,), (1,)), (GREAT - 1, GREAT), GREAT - 1)])
        self.assertEqual(self.compare([linear(3, 10 ** 29), linear(3, 10 ** 29)]), [(((0, 1),), (1, 1), 0)])

    def test_three_deals(self):
        self.assertEqual(len(self.compare([plain(GREAT), plain(GREAT - 1), plain(GREAT - 3)])), 5)
        grown = [plain(GREAT // 4), split(GREAT // 4, 10 ** 20), plain(GREAT // 2)]
        found = self.compare(grown)
        self.assertEqual([pattern for pattern, _, _ in found], [((0, 1, 2),), ((0,), (1, 2)), ((0, 1), (2,))])
        self.assertEqual([mark for _, _, mark in found], [0, GREAT // 4, GREAT // 4 + 10 ** 20])
        many = [(GREAT - k, tuple((i * 10 ** 29, i % 3 * 7) for i in range(4))) for k in (0, 2, 6)]
        self.compare(many)

    def test_four_deals(self):
        top = 10 ** 12
        self.assertEqual(len(self.compare([plain(top - k) for k in (0, 1, 3, 9)])), 15)
        self.compare([plain(top), plain(top // 2), plain(top // 4 * 3), plain(top // 5)])
        self.compare([split(top // 2, 12345), plain(top - 1), split(top // 4 * 2, 54321), plain(top - 7)])
        self.compare([(top, ((0, 0), (9, 1), (top // 2, -9), (top - 1, 7))), plain(top - 3), plain(top - 7), plain(top - 9)])

    def test_two_pairs(self):
        # Just those marks have the pattern that lie in two families; no other deals agree then.
        found = {pattern: (share, mark) for pattern, share, mark in patterns(FOUR)}
        _, marks = marks_by_pattern(FOUR)
        for pattern in [((0, 1), (2, 3)), ((0, 2), (1, 3)), ((0, 3), (1, 2))]:
            self.assertEqual(found[pattern], (fraction(Fraction(len(marks[pattern]), 420)), marks[pattern][0]))


class TestErrorsOfDeals(unittest.TestCase):

    def test_no_list_of_so_many(self):
        wrong = [value for value in other_values() if not isinstance(value, list) or len(value) != 1]
        wrong += [[], [PLAIN] * 5, [None] * 5, (PLAIN,), (PLAIN, PLAIN), PLAIN, {PLAIN: PLAIN}]
        for value in wrong:
            for name, function in ALL.items():
                with self.subTest(f"{name} {repr(value)[:100]}"):
                    with self.assertRaises(InvalidDeals):
                        function(value)

    def test_items_that_are_no_deals(self):
        great = plain(10 ** 12 + 1)
        for wrong in wrong_deals():
            for deals in [[wrong], [PLAIN, wrong], [great, great, great, wrong], [deal_of_pieces(6)] * 3 + [wrong]]:
                for function in ALL.values():
                    with self.assertRaises(InvalidDeal):
                        function(deals)

    def test_pieces(self):
        for numbers in [(5, 5, 3), (6, 6, 2), (4, 4, 5), (6, 6, 6, 6), (3, 3, 3, 3)]:
            for function in ALL.values():
                with self.assertRaises(TooMany):
                    function([deal_of_pieces(many) for many in numbers])
        for numbers in [(4, 4, 4), (6, 6, 1), (6, 5, 2), (6, 6), (6,)]:
            for function in ALL.values():
                function([deal_of_pieces(many) for many in numbers])

    def test_four_deals(self):
        top = plain(10 ** 12)
        over = plain(10 ** 12 + 1)
        turns = [(6, ((0, 0), (2, -2), (4, -4))), (4, ((0, 0), (2, -2))), plain(2), plain(2)]
        refused = [[over, PLAIN, PLAIN, PLAIN], [PLAIN, PLAIN, PLAIN, over], [deal_of_pieces(5)] + [PLAIN] * 3, turns,
                   [deal_of_pieces(3), deal_of_pieces(2), PLAIN, PLAIN]]
        for deals in refused:
            self.assertLessEqual(product_of_pieces(deals), 64)
            for name, function in ALL.items():
                if name == "pattern_of":
                    self.assertEqual(function(deals), pattern_by_words(deals, 3))
                else:
                    with self.assertRaises(TooMany):
                        function(deals)
        for deals in [[top] * 4, [deal_of_pieces(4)] + [PLAIN] * 3, [deal_of_pieces(2)] * 2 + [PLAIN] * 2]:
            for function in ALL.values():
                function(deals)
        # The limits of four deals are none of three.
        patterns([over, plain(GREAT), deal_of_pieces(6)])

    def test_marks(self):
        for wrong in wrong_numbers():
            for deals in [[PLAIN], [PLAIN] * 4, [plain(GREAT)] * 4]:
                with self.assertRaises(InvalidMark):
                    pattern_of(deals, wrong)
            with self.assertRaises(InvalidDeals):
                pattern_of([], wrong)
            with self.assertRaises(TooMany):
                pattern_of([deal_of_pieces(5)] * 3, wrong)


class TestErrorsOfPatterns(unittest.TestCase):

    wrong_of_three = other_values() + [
        ((0, 1),), ((0, 1), (2, 3)), ((0, 1), (1, 2)), ((0, 1), (2,), (2,)), ((0,), (1,)), ((1, 0), (2,)), ((2,), (0, 1)),
        ((1,), (0, 2)), ((0, 2, 1),), ((0, 1, 2), ()), ((), (0, 1, 2)), ((0, 1, 3),), ((0, 1, 2, 3),), ((-1, 0, 1, 2),),
        ((0, 0, 1, 2),), [(0, 1), (2,)], ([0, 1], (2,)), ((0, 1), [2]), (0, 1, 2), (0, (1, 2)), ((0, 1), 2), ((0, 1, 2)),
        ((False, True, 2),), ((0, True), (2,)), ((False,), (1,), (2,)), ((0, 1), ("2",)), ((0, 1), (None,)),
        ((0, 1), ((2,),)), {(0, 1): 1, (2,): 1}, (("0",), ("1",), ("2",)), "012", (nested(110),), ((0, 1, 2),) * 2,
        ((0, 1, 10 ** 300),), ((0,), (1,), (2,), (3,)), ((0,),),
    ]

    def test_wrong_patterns(self):
        deals = [PLAIN, plain(6), plain(9)]
        for wrong in self.wrong_of_three:
            for function in (below_pattern, nth_pattern):
                for number in (0, None):
                    with self.subTest(repr(wrong)[:100]):
                        with self.assertRaises(InvalidPattern):
                            function(deals, wrong, number)

    def test_patterns_of_other_numbers(self):
        for many in (1, 2, 3, 4):
            deals = [plain(4 + k) for k in range(many)]
            for other in (1, 2, 3, 4):
                for pattern in all_patterns(other):
                    if other != many:
                        with self.assertRaises(InvalidPattern):
                            below_pattern(deals, pattern, 3)
                    else:
                        self.assertGreaterEqual(below_pattern(deals, pattern, 3), 0)

    def test_numbers(self):
        for wrong in wrong_numbers():
            for pattern in (((0, 1),), ((0,), (1,))):
                for function in (below_pattern, nth_pattern):
                    with self.assertRaises(InvalidNumber):
                        function([PLAIN, PLAIN], pattern, wrong)

    def test_patterns_that_no_mark_has(self):
        self.assertEqual(below_pattern([PLAIN, PLAIN], ((0,), (1,)), 10 ** 300), 0)
        with self.assertRaises(InvalidNumber):
            nth_pattern([PLAIN, PLAIN], ((0,), (1,)), 0)
        self.assertEqual(nth_pattern([PLAIN, PLAIN], ((0, 1),), 10 ** 300), 10 ** 300)

    def test_behind_the_errors_of_deals(self):
        for wrong in (None, ((0,), (0,))):
            for function in (below_pattern, nth_pattern):
                with self.assertRaises(InvalidDeals):
                    function([], wrong, None)
                with self.assertRaises(InvalidDeal):
                    function([PLAIN, None], wrong, None)
                for deals in ([deal_of_pieces(5)] * 3, [plain(10 ** 12 + 1)] * 4):
                    with self.assertRaises(TooMany):
                        function(deals, wrong, None)


class TestManyLists(unittest.TestCase):

    def test_shares_of_all_kinds_of_deals(self):
        chance = random.Random(9)
        for _ in range(20):
            deals = []
            for _ in range(3):
                period = chance.randrange(10 ** 6, GREAT)
                starts = [0] + sorted(chance.randrange(1, period) for _ in range(3))
                deals.append((period, tuple((start, chance.choice([0, 1, -start])) for start in starts)))
                check_deal(deals[-1])
            found = patterns(deals)
            self.assertEqual(sum(Fraction(*share) for _, share, _ in found), 1)
            for pattern, _, mark in found:
                self.assertEqual(pattern_by_words(deals, mark), pattern)


if __name__ == "__main__":
    unittest.main()
