"""Stage 5, points [12] and [13]: deals."""

import unittest
from fractions import Fraction

from bymarks.deals import check_deal, form, linear, place_of, plain, split, uses
from bymarks.errors import InvalidDeal, InvalidMark, InvalidNumber, InvalidPlace
from bymarks.runs import share
from tests.samples import wrong_numbers
from tests.samples_deals import (
    GREAT, PLAIN, deal_of_pieces, least_period, pieces_of, place_in, row_of, some_deals, times_over,
    wrong_deals,
)
from tests.samples_rules import fraction

ONE_DEAL = {
    "check_deal": check_deal, "form": form, "uses": uses, "place_of": lambda deal: place_of(deal, 3),
    "share": lambda deal: share(deal, 3),
}


class TestCheckDeal(unittest.TestCase):

    def test_right_deals(self):
        for deal in [
            PLAIN, (1, ((0, 0),)), (GREAT, ((0, 0),)), (4, ((0, GREAT),)), (GREAT, ((0, 0), (GREAT - 1, 1 - GREAT))),
            (4, ((0, 0), (3, -3))), (2, ((0, 5), (1, -1))), (4, ((0, 0), (1, 0), (2, 0), (3, 0))), deal_of_pieces(6),
            (GREAT, ((0, GREAT), (1, -1), (2, GREAT), (3, -3), (4, 0), (GREAT - 1, 0))),
        ]:
            self.assertIsNone(check_deal(deal))
        for deal in some_deals(1, 200):
            self.assertIsNone(check_deal(deal))

    def test_wrong_deals(self):
        for wrong in wrong_deals():
            for name, function in ONE_DEAL.items():
                with self.subTest(f"{name} {repr(wrong)[:100]}"):
                    with self.assertRaises(InvalidDeal):
                        function(wrong)

    def test_ahead_of_other_errors(self):
        for wrong in wrong_numbers():
            for function in (place_of, share):
                with self.assertRaises(InvalidDeal):
                    function((4, ((1, 0),)), wrong)


class TestPlaceOf(unittest.TestCase):

    def test_against_the_words(self):
        for deal in some_deals(2, 100):
            for mark in range(2 * deal[0] + 1):
                self.assertEqual(place_of(deal, mark), place_in(deal, mark))

    def test_at_each_start(self):
        deal = (10, ((0, 7), (3, -3), (4, 100), (9, -2)))
        self.assertEqual([place_of(deal, mark) for mark in (0, 2, 3, 4, 8, 9)], [7, 9, 0, 104, 108, 7])
        self.assertEqual([place_of(deal, 10 ** 300 + mark) for mark in (0, 2, 3, 4, 8, 9)], [7, 9, 0, 104, 108, 7])
        great = (GREAT, ((0, GREAT), (1, -1), (GREAT - 1, 1 - GREAT)))
        self.assertEqual([place_of(great, mark) for mark in (0, 1, GREAT - 2, GREAT - 1)], [GREAT, 0, GREAT - 3, 0])
        self.assertEqual(place_of(great, 10 ** 300 + 1), 0)

    def test_what_is_no_mark(self):
        for wrong in wrong_numbers():
            with self.assertRaises(InvalidMark):
                place_of(PLAIN, wrong)


class TestMade(unittest.TestCase):

    def test_plain(self):
        for modulus in (1, 2, 7, GREAT - 1, GREAT):
            self.assertEqual(plain(modulus), (modulus, ((0, 0),)))
        for wrong in wrong_numbers() + [0, GREAT + 1, 10 ** 300]:
            with self.assertRaises(InvalidNumber):
                plain(wrong)

    def test_split(self):
        for modulus in range(1, 12):
            self.assertEqual(split(modulus, 0), plain(modulus))
            self.assertEqual(split(modulus, modulus), plain(2 * modulus))
            for many in range(1, modulus):
                self.assertEqual(split(modulus, many), (2 * modulus, ((0, 0), (modulus + many, -modulus))))
                self.assertIsNone(check_deal(split(modulus, many)))
        half = GREAT // 2
        self.assertEqual(split(half, half - 1), (GREAT, ((0, 0), (GREAT - 1, -half))))
        self.assertEqual(split(half, half), plain(GREAT))
        self.assertEqual(split(GREAT, 0), plain(GREAT))

    def test_split_beyond(self):
        for modulus, many in [(4, 5), (4, -1), (0, 0), (-4, 0), (GREAT // 2 + 1, 1), (GREAT, 1), (GREAT, GREAT),
                              (GREAT + 1, 0), (10 ** 300, 7), (4, 10 ** 300)]:
            with self.assertRaises(InvalidNumber):
                split(modulus, many)
        for wrong in wrong_numbers():
            for modulus, many in [(wrong, 0), (4, wrong), (wrong, wrong), (10 ** 300, wrong)]:
                with self.assertRaises(InvalidNumber):
                    split(modulus, many)

    def test_linear(self):
        for base in range(1, 8):
            for many in range(base, 70):
                deal = linear(base, many)
                modulus = max(base * 2 ** k for k in range(8) if base * 2 ** k <= many)
                self.assertEqual(deal, split(modulus, many - modulus))
                self.assertEqual(sorted(set(row_of(deal))), list(range(many)))
        self.assertEqual(linear(4, 6), (8, ((0, 0), (6, -4))))
        self.assertEqual(linear(1, 2 ** 99), plain(2 ** 99))
        self.assertEqual(linear(1, 2 ** 98 + 1), split(2 ** 98, 1))
        self.assertEqual(linear(GREAT, GREAT), plain(GREAT))
        self.assertEqual(linear(GREAT // 2, GREAT - 1), split(GREAT // 2, GREAT // 2 - 1))

    def test_linear_grows_by_one_place(self):
        for base in (1, 3, 4):
            for many in range(base, 40):
                one, other = linear(base, many), linear(base, many + 1)
                moved = {place_in(one, mark) for mark in range(200) if place_in(one, mark) != place_in(other, mark)}
                self.assertEqual(len(moved), 1)

    def test_linear_beyond(self):
        for base, many in [(4, 3), (4, 0), (0, 0), (0, 4), (-1, 4), (GREAT, GREAT + 1), (GREAT + 1, GREAT + 1),
                           (GREAT, 2 * GREAT), (1, 2 ** 99 + 1), (1, 10 ** 300), (1, 10 ** 301 - 1), (10 ** 300, 10 ** 300)]:
            with self.assertRaises(InvalidNumber):
                linear(base, many)
        for wrong in wrong_numbers():
            for base, many in [(wrong, 4), (4, wrong), (wrong, wrong)]:
                with self.assertRaises(InvalidNumber):
                    linear(base, many)


class TestForm(unittest.TestCase):

    def test_against_going_through(self):
        for deal in some_deals(3, 500):
            row = row_of(deal)
            least = least_period(row)
            self.assertEqual(form(deal), (least, pieces_of(row[:least])))
            self.assertIsNone(check_deal(form(deal)))

    def test_equal_just_for_deals_that_do_the_same(self):
        deals = some_deals(4, 120)
        alike = 0
        for one in deals:
            for other in deals:
                period = one[0] * other[0]
                same = all(place_in(one, mark) == place_in(other, mark) for mark in range(period))
                self.assertEqual(form(one) == form(other), same)
                alike += same
        self.assertGreater(alike, len(deals))

    def test_each_number_of_turns(self):
        for times in range(1, 7):
            for inner in [plain(5), plain(1), (7, ((0, 3),))]:
                self.assertEqual(form(times_over(inner, times)), inner)
        for times in (2, 3):
            inner = (10, ((0, 4), (6, -6)))
            self.assertEqual(form(times_over(inner, times)), inner)
        # A turn ends with the shift with which the next one begins, so five turns have six pieces.
        round_about = (GREAT // 5, ((0, 7), (GREAT // 5 - 7, 7 - GREAT // 5)))
        pieces = [(0, 7)] + [(k * (GREAT // 5) - 7, 7 - k * (GREAT // 5)) for k in range(1, 6)]
        self.assertEqual(form((GREAT, tuple(pieces))), round_about)

    def test_great_periods(self):
        self.assertEqual(form((GREAT, ((0, 0), (1, 0), (GREAT // 2, -GREAT // 2), (GREAT - 1, -GREAT // 2)))),
                         plain(GREAT // 2))
        moved = (GREAT, ((0, 0), (GREAT // 2, -GREAT // 2), (GREAT - 1, 1 - GREAT)))
        self.assertEqual(form(moved), moved)
        for deal in (split(GREAT // 2, 12345), plain(GREAT), linear(3, 10 ** 29)):
            self.assertEqual(form(deal), deal)
        self.assertEqual(form(times_over(plain(GREAT // 6), 6)), plain(GREAT // 6))
        self.assertEqual(form((GREAT, ((0, 5), (7, 5), (9, 4), (GREAT - 1, 4)))), (GREAT, ((0, 5), (9, 4))))


class TestUses(unittest.TestCase):

    def test_against_going_through(self):
        for deal in some_deals(5, 400):
            row = row_of(form(deal))
            rows = [(place, row.count(place)) for place in sorted(set(row))]
            found = []
            for place, times in rows:
                if found and found[-1][1] == place - 1 and found[-1][2] == times:
                    found[-1] = (found[-1][0], place, times)
                else:
                    found.append((place, place, times))
            self.assertEqual(uses(deal), found)

    def test_great_periods(self):
        self.assertEqual(uses(plain(GREAT)), [(0, GREAT - 1, 1)])
        self.assertEqual(uses(split(GREAT // 2, 7)), [(0, 6, 1), (7, GREAT // 2 - 1, 2), (GREAT // 2, GREAT // 2 + 6, 1)])
        self.assertEqual(uses((GREAT, ((0, GREAT), (10, -10), (20, -20)))),
                         [(0, 9, 2), (10, GREAT - 21, 1), (GREAT, GREAT + 9, 1)])
        self.assertEqual(uses(times_over(plain(10), 3)), [(0, 9, 1)])
        found = uses(PLAIN)
        found.append("more")
        self.assertEqual(uses(PLAIN), [(0, 3, 1)])


class TestShare(unittest.TestCase):

    def test_against_going_through(self):
        for deal in some_deals(6, 200):
            row = row_of(deal)
            for place in range(max(row) + 3):
                self.assertEqual(share(deal, place), fraction(Fraction(row.count(place), deal[0])))

    def test_great(self):
        self.assertEqual(share(plain(GREAT), GREAT - 1), (1, GREAT))
        self.assertEqual(share(plain(GREAT), GREAT), (0, 1))
        self.assertEqual(share(plain(GREAT), 10 ** 300), (0, 1))
        self.assertEqual(share(split(GREAT // 2, 7), 7), (1, GREAT // 2))

    def test_what_is_no_place(self):
        for wrong in wrong_numbers():
            with self.assertRaises(InvalidPlace):
                share(PLAIN, wrong)


if __name__ == "__main__":
    unittest.main()
