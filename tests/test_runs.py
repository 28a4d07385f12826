"""Stage 6, points [14] and [15]: where deals agree."""

import copy
import unittest
from fractions import Fraction
from math import lcm

from bymarks.deals import form, linear, plain, split
from bymarks.errors import InvalidDeal, InvalidDeals, InvalidPlace, TooMany
from bymarks.runs import agreement, flow, parting, together
from tests.samples import other_values, wrong_numbers
from tests.samples_deals import (
    GREAT, PLAIN, deal_of_pieces, place_in, runs_of, some_deals, some_lists, times_over, wrong_deals,
)
from tests.samples_rules import fraction

OF_LISTS = {"together": together, "agreement": agreement, "parting": parting}


def of_pieces(*numbers):
    """Deals with so many pieces."""
    return [deal_of_pieces(many) for many in numbers]


class TestAgainstGoingThrough(unittest.TestCase):

    def test_lists(self):
        seen = {}
        for deals in some_lists(1, 500, [1, 2, 2, 3, 3, 4, 5]):
            with self.subTest(deals):
                given = copy.deepcopy(deals)
                period = lcm(*[form(deal)[0] for deal in deals])
                alike = [len({place_in(deal, mark) for deal in deals}) == 1 for mark in range(period)]
                marks = [mark for mark in range(period) if alike[mark]]
                self.assertEqual(together(deals), (period, runs_of(marks)))
                least = marks[0] if marks else None
                self.assertEqual(agreement(deals), (fraction(Fraction(len(marks), period)), least))
                self.assertEqual(parting(deals), alike.index(False) if False in alike else None)
                self.assertEqual(deals, given)
                seen[len(deals), min(len(runs_of(marks)), 3)] = True
        self.assertLessEqual({(many, runs) for many in (2, 3) for runs in (0, 1, 2, 3)}, set(seen))
        self.assertLessEqual({(many, runs) for many in (4, 5) for runs in (0, 1)}, set(seen))

    def test_flow(self):
        told = 0
        for one, other in some_lists(2, 120, [2]):
            period = lcm(one[0], other[0])
            pairs = [(place_in(one, mark), place_in(other, mark)) for mark in range(period)]
            for start in range(0, max(pairs)[0] + 2):
                for end in range(0, 12, 2):
                    share = fraction(Fraction(pairs.count((start, end)), period))
                    least = pairs.index((start, end)) if (start, end) in pairs else None
                    self.assertEqual(flow(one, other, start, end), (share, least))
                    told += least is not None
        self.assertGreater(told, 300)


class TestFamilies(unittest.TestCase):

    def test_no_run(self):
        deals = [(4, ((0, 5),)), plain(4)]
        self.assertEqual([together(deals), agreement(deals), parting(deals)], [(4, ()), ((0, 1), None), 0])
        # The places are the same, but no mark goes to one of them by both.
        apart = [plain(4), (4, ((0, 2), (2, -2)))]
        self.assertEqual([together(apart), agreement(apart), parting(apart)], [(4, ()), ((0, 1), None), 0])

    def test_one_whole_run(self):
        for deal in [plain(GREAT), linear(3, 10 ** 29), PLAIN]:
            whole = (deal[0], ((0, deal[0]),))
            for many in range(1, 6):
                deals = [deal] * many
                self.assertEqual([together(deals), agreement(deals), parting(deals)], [whole, ((1, 1), 0), None])
        deals = [times_over(plain(5), 6), times_over(plain(5), 2), plain(5)]
        self.assertEqual([together(deals), parting(deals)], [(5, ((0, 5),)), None])

    def test_runs_that_touch_are_joined(self):
        deals = [(12, ((0, 0), (3, 1), (6, 1))), (12, ((0, 0), (3, 1), (5, 1), (9, 0)))]
        self.assertEqual(together(deals), (12, ((0, 9),)))
        # The end of the period and its beginning are not joined.
        self.assertEqual(together([plain(10), (10, ((0, 0), (3, 1), (7, 0)))]), (10, ((0, 3), (7, 10))))

    def test_parting_behind_the_first_run(self):
        self.assertEqual(parting([plain(4), plain(6)]), 4)
        self.assertEqual(parting([plain(4), (4, ((0, 1), (1, 0)))]), 0)
        self.assertEqual(parting([plain(4), (4, ((0, 0), (3, 4)))]), 3)


class TestGreatPeriods(unittest.TestCase):

    def test_without_common_divisors(self):
        deals = [plain(GREAT), plain(GREAT - 1)]
        period = GREAT * (GREAT - 1)
        self.assertEqual(together(deals), (period, ((0, GREAT - 1),)))
        self.assertEqual(agreement(deals), ((1, GREAT), 0))
        self.assertEqual(parting(deals), GREAT - 1)

    def test_with_common_divisors(self):
        part = GREAT // 10
        deals = [plain(part * 9), plain(part * 6)]
        self.assertEqual(together(deals), (part * 18, ((0, part * 6),)))
        self.assertEqual(agreement(deals), ((1, 3), 0))
        grown = [plain(part), split(part, part // 2), plain(2 * part)]
        self.assertEqual(together(grown), (2 * part, ((0, part),)))
        self.assertEqual(together(grown[:2]), (2 * part, ((0, part), (part + part // 2, 2 * part))))
        self.assertEqual(agreement(grown[:2]), ((3, 4), 0))
        self.assertEqual([parting(grown[:2]), parting(grown[1:])], [part, part + part // 2])

    def test_least_mark_far_away(self):
        # By the one deal the place is the remainder, by the other one this and 1: they meet when both turned.
        one, other = plain(GREAT), (GREAT - 1, ((0, 1),))
        mark = agreement([one, other])[1]
        self.assertEqual(place_in(one, mark), place_in(other, mark))
        self.assertEqual(mark, GREAT * (GREAT - 2) + 1)
        self.assertEqual(together([one, other]), (GREAT * (GREAT - 1), ((mark, mark + GREAT - 1),)))
        even, odd = plain(GREAT), (GREAT - 2, ((0, 1),))
        self.assertEqual(agreement([even, odd]), ((0, 1), None))

    def test_five_deals(self):
        deals = [plain(GREAT - k) for k in (0, 1, 3, 9, 11)]
        period = lcm(*[deal[0] for deal in deals])
        self.assertEqual(together(deals), (period, ((0, GREAT - 11),)))
        self.assertEqual(agreement(deals), (fraction(Fraction(GREAT - 11, period)), 0))
        self.assertEqual(parting(deals), GREAT - 11)

    def test_each_run_is_right(self):
        pieces = ((0, 0), (GREAT // 3, 7), (GREAT // 2, -(GREAT // 2)), (GREAT // 2 + 9, 1))
        deals = [(GREAT, pieces), (GREAT - 12, pieces), (GREAT - 6, pieces)]
        period, runs = together(deals)
        self.assertGreater(len(runs), 3)
        self.assertLessEqual(len(runs), 64)
        for start, end in runs:
            for mark in (start, (start + end) // 2, end - 1):
                self.assertEqual(len({place_in(deal, mark) for deal in deals}), 1)
            for mark in (start - 1, end):
                if 0 <= mark < period:
                    self.assertGreater(len({place_in(deal, mark) for deal in deals}), 1)

    def test_flow(self):
        one, other = plain(GREAT), plain(GREAT - 1)
        self.assertEqual(flow(one, other, 7, 7), ((1, GREAT * (GREAT - 1)), 7))
        share, mark = flow(one, other, 7, 8)
        self.assertEqual([share, mark], [(1, GREAT * (GREAT - 1)), GREAT + 7])
        self.assertEqual(flow(one, plain(GREAT // 2), 7, 8), ((0, 1), None))
        self.assertEqual(flow(one, plain(GREAT // 2), GREAT // 2 + 8, 8), ((1, GREAT), GREAT // 2 + 8))
        self.assertEqual(flow(one, other, GREAT, 7), ((0, 1), None))
        self.assertEqual(flow(one, other, 7, 10 ** 300), ((0, 1), None))
        folded = (GREAT, tuple((k * 10, -k * 10) for k in range(6)))
        self.assertEqual(flow(folded, folded, 3, 3), ((3, GREAT // 2), 3))


class TestErrors(unittest.TestCase):

    def test_no_list_of_so_many(self):
        wrong = [value for value in other_values() if not isinstance(value, list) or len(value) != 1]
        wrong += [[], [PLAIN] * 6, [PLAIN] * 1000, [None] * 6, (PLAIN,), (PLAIN, PLAIN), PLAIN, {PLAIN: PLAIN}]
        wrong += [of_pieces(6, 6, 6, 6, 6, 6)]
        for value in wrong:
            for name, function in OF_LISTS.items():
                with self.subTest(f"{name} {repr(value)[:100]}"):
                    with self.assertRaises(InvalidDeals):
                        function(value)

    def test_items_that_are_no_deals(self):
        # This comes ahead of too many pieces.
        for wrong in wrong_deals():
            for deals in [[wrong], [PLAIN, wrong], [wrong] * 5, of_pieces(6, 6) + [wrong], [wrong] + of_pieces(6, 6, 6)]:
                for function in OF_LISTS.values():
                    with self.assertRaises(InvalidDeal):
                        function(deals)

    def test_pieces(self):
        for numbers in [(4, 4, 4), (2, 2, 4, 4, 1), (1, 6, 6), (5, 6, 2), (6, 5), (4, 4, 4, 1, 1), (2, 2, 2, 2, 4)]:
            for function in OF_LISTS.values():
                function(of_pieces(*numbers))
        for numbers in [(5, 5, 3), (6, 6, 2), (4, 4, 5), (6, 6, 6, 6, 6), (1, 1, 6, 6, 2), (3, 3, 2, 2, 2)]:
            for function in OF_LISTS.values():
                with self.assertRaises(TooMany):
                    function(of_pieces(*numbers))

    def test_pieces_as_they_are_handed_in(self):
        # Forms of one piece each.
        deals = [times_over(plain(2), 5), times_over(plain(3), 5), times_over(plain(5), 3)]
        for function in OF_LISTS.values():
            with self.assertRaises(TooMany):
                function(deals)
        self.assertEqual(together(deals[:2]), (6, ((0, 2),)))

    def test_flow(self):
        for wrong in wrong_deals():
            for one, other in [(wrong, PLAIN), (PLAIN, wrong), (wrong, wrong)]:
                with self.assertRaises(InvalidDeal):
                    flow(one, other, 0, None)
        for wrong in wrong_numbers():
            for start, end in [(wrong, 0), (0, wrong), (wrong, wrong), (10, wrong)]:
                with self.assertRaises(InvalidPlace):
                    flow(PLAIN, PLAIN, start, end)
                with self.assertRaises(InvalidPlace):
                    flow(deal_of_pieces(6), deal_of_pieces(6), start, end)


class TestDoTheSame(unittest.TestCase):

    def test_parting_tells_whether_two_deals_do_the_same(self):
        deals = some_deals(7, 80)
        for one in deals:
            for other in deals[:40]:
                if len(one[1]) * len(other[1]) <= 64:
                    self.assertEqual(parting([one, other]) is None, form(one) == form(other))


if __name__ == "__main__":
    unittest.main()
