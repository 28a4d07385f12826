"""Stage 13, point [31]: deals as values."""

import itertools
import unittest
from math import lcm

from bymarks.deals import form, linear, plain, split
from bymarks.dealvalues import Deal
from bymarks.errors import InvalidDeal, InvalidMark, InvalidNumber
from bymarks.runs import together
from bymarks.values import Marks
from tests.samples import nested, other_values, wrong_numbers
from tests.samples_deals import (
    GREAT, PLAIN, least_period, pieces_of, place_in, row_of, runs_of, some_deals, times_over, wrong_deals,
)


def form_by_words(deal):
    """The form of a deal, going through the remainders."""
    row = row_of(deal)
    row = row[:least_period(row)]
    return (len(row), pieces_of(row))


class TestDeal(unittest.TestCase):

    def test_against_the_marks(self):
        for data in some_deals(91, 250):
            deal = Deal(data)
            told = form_by_words(data)
            self.assertEqual((deal.data, deal.form, len(deal)), (data, told, len(told[1])))
            marks = list(range(2 * data[0])) + [GREAT ** 10]
            self.assertEqual([deal(mark) for mark in marks], [place_in(data, mark) for mark in marks])
            row = row_of(told)
            for place in range(max(row) + 3):
                self.assertIs(place in deal, place in row)
                self.assertEqual(deal[place], tuple((told[0], k) for k in range(told[0]) if row[k] == place))

    def test_any_place(self):
        deal = Deal((4, ((0, 0), (2, -2))))
        self.assertEqual((deal[0], deal[1], deal[2]), (((2, 0),), ((2, 1),), ()))
        for value in other_values() + wrong_numbers() + ["0", (0,), 0 == 0, deal]:
            if value not in (0, 1) or isinstance(value, bool):
                self.assertIs(value in deal, False)
                self.assertEqual(deal[value], ())

    def test_static_methods(self):
        for modulus in (1, 4, 7, GREAT):
            self.assertEqual(Deal.plain(modulus).data, plain(modulus))
        for modulus, many in ((4, 0), (4, 3), (4, 4), (GREAT // 2, 5), (GREAT, 0)):
            self.assertEqual(Deal.halved(modulus, many).data, split(modulus, many))
        for base, many in ((4, 4), (4, 6), (1, 100), (GREAT // 4, GREAT // 2 - 1)):
            self.assertEqual(Deal.linear(base, many).data, linear(base, many))
        for wrong in wrong_numbers() + [0, GREAT + 1]:
            with self.assertRaises(InvalidNumber):
                Deal.plain(wrong)
            for function in (Deal.halved, Deal.linear):
                with self.assertRaises(InvalidNumber):
                    function(wrong, 0)
        for wrong in wrong_numbers() + [5, 10 ** 300]:
            with self.assertRaises(InvalidNumber):
                Deal.halved(4, wrong)
        for wrong in wrong_numbers() + [3, 10 ** 300]:
            with self.assertRaises(InvalidNumber):
                Deal.linear(4, wrong)

    def test_stays(self):
        deal = Deal(linear(4, 6))
        for name in ("data", "form"):
            with self.assertRaises(AttributeError):
                setattr(deal, name, plain(4))
        self.assertIs(deal.data, deal.data)

    def test_equal(self):
        deals = some_deals(92, 60)
        for one, other in itertools.product(deals, repeat=2):
            same = all(place_in(one, mark) == place_in(other, mark) for mark in range(lcm(one[0], other[0])))
            self.assertIs(Deal(one) == Deal(other), same)
            self.assertIs(Deal(one) != Deal(other), not same)
        self.assertEqual(Deal(times_over(PLAIN, 3)), Deal(PLAIN))
        for value in other_values() + [PLAIN, [PLAIN], Marks(("class", 4, 1))]:
            self.assertIs(Deal(PLAIN) == value, False)
            self.assertIs(value == Deal(PLAIN), False)

    def test_families(self):
        deals = some_deals(93, 25)
        for one, other in itertools.product(deals, repeat=2):
            both = Deal(one) & Deal(other)
            self.assertEqual(both, together([one, other]))
            period = both[0]
            agreed = [place_in(one, mark) == place_in(other, mark) for mark in range(period)]
            self.assertEqual(both[1], runs_of([mark for mark in range(period) if agreed[mark]]))
            self.assertEqual(Deal(one) ^ Deal(other), (period, runs_of([mark for mark in range(period) if not agreed[mark]])))
        same = Deal(PLAIN)
        self.assertEqual((same & same, same ^ same), ((4, ((0, 4),)), (4, ())))
        apart = Deal((4, ((0, 4),)))
        self.assertEqual((same & apart, same ^ apart), ((4, ()), (4, ((0, 4),))))

    def test_shifts(self):
        for data in some_deals(94, 150):
            deal, told = Deal(data), form_by_words(data)
            for by in (0, 1, 5, 10 ** 29):
                more = tuple((start, shift + by) for start, shift in told[1])
                self.assertEqual((deal >> by).data, (told[0], more))
                self.assertEqual((deal >> by)(7), place_in(data, 7) + by)
                less = tuple((start, shift - by) for start, shift in told[1])
                if all(start + shift >= 0 for start, shift in less):
                    self.assertEqual((deal << by).data, (told[0], less))
                else:
                    with self.assertRaises(InvalidDeal):
                        deal << by
            self.assertEqual((deal >> 3) << 3, deal)
            self.assertEqual((deal.data, deal.form), (data, told))

    def test_bounds_of_shifts(self):
        self.assertEqual((Deal(plain(4)) >> GREAT).data, (4, ((0, GREAT),)))
        for by in (GREAT + 1, 10 ** 300):
            with self.assertRaises(InvalidDeal):
                Deal(plain(4)) >> by
            with self.assertRaises(InvalidDeal):
                Deal((4, ((0, GREAT),))) << by
        self.assertEqual((Deal((4, ((0, GREAT),))) << GREAT).data, plain(4))
        with self.assertRaises(InvalidDeal):
            Deal(plain(4)) << 1
        # Of the form: the second piece of what was handed in would come below 0 by the shift that it has there.
        twice = Deal((8, ((0, 2), (4, -2))))
        self.assertEqual((twice << 2).data, (4, ((0, 0),)))

    def test_invalid(self):
        for wrong in wrong_deals() + [[4, ((0, 0),)], nested(100)]:
            with self.assertRaises(InvalidDeal):
                Deal(wrong)
        for wrong in wrong_numbers():
            with self.assertRaises(InvalidMark):
                Deal(PLAIN)(wrong)
        with self.assertRaises(TypeError):
            list(Deal(PLAIN))

    def test_great(self):
        one, other = Deal(plain(GREAT)), Deal(plain(GREAT - 1))
        period = GREAT * (GREAT - 1)
        self.assertEqual((one & other, one ^ other), ((period, ((0, GREAT - 1),)), (period, ((GREAT - 1, period),))))
        self.assertEqual(one[GREAT - 1], ((GREAT, GREAT - 1),))
        self.assertEqual(form(one.data), one.form)


if __name__ == "__main__":
    unittest.main()
