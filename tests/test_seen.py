"""Stage 11, points [26] and [27]: what sightings tell."""

import copy
import random
import unittest

from bymarks.deals import linear, plain
from bymarks.errors import InvalidDeal, InvalidSightings, TooMany
from bymarks.seen import first_wrong, known, told
from tests.samples_deals import GREAT, PLAIN, place_in, some_deals, times_over, wrong_deals
from tests.samples_seen import (
    left_by_words, many_left, some_lists_of_sightings, too_many_by_words, wrong_sightings,
)


def first_by_words(sightings):
    """The number of the first sighting that leaves no mark, or None."""
    for k in range(len(sightings)):
        if not left_by_words(sightings[:k + 1])[1]:
            return k
    return None


def told_by_words(sightings, deal):
    """What is told of the place by a deal, going through the marks of a common period."""
    modulus, remainders = left_by_words(sightings)
    if not remainders:
        return ("never",)
    marks = sorted(remainder + modulus * k for remainder in remainders for k in range(deal[0]))
    places = [place_in(deal, mark) for mark in marks]
    others = [mark for mark, place in zip(marks, places) if place != places[0]]
    return ("unsure", marks[0], others[0]) if others else ("sure", places[0])


class TestAgainstGoingThrough(unittest.TestCase):

    def test_small_periods(self):
        seen = {}
        deals = some_deals(61, 40)
        for sightings in some_lists_of_sightings(62, 300):
            given = copy.deepcopy(sightings)
            if too_many_by_words(sightings):
                continue
            with self.subTest(str(sightings)):
                self.assertEqual(known(sightings), left_by_words(sightings))
                self.assertEqual(first_wrong(sightings), first_by_words(sightings))
                for deal in deals[::8] + [given_deal for given_deal, _ in sightings[:2]]:
                    found = told(sightings, deal)
                    self.assertEqual(found, told_by_words(sightings, deal))
                    seen[found[0]] = True
                self.assertEqual(sightings, given)
            seen[first_wrong(sightings)] = True
        self.assertLessEqual({"sure", "unsure", "never", None, 0, 1, 2, 3}, set(seen))

    def test_many_pieces(self):
        # Six remainders of a period go to one place, and a seventh one to another place.
        deal = (70, tuple((k * 10, -k * 10) for k in range(6)))
        for sightings in ([], [(plain(10), 3)], [(plain(5), 2)], [(plain(20), 3)], [(plain(70), 13)], [(plain(7), 1)]):
            for further in (deal, times_over((70, ((0, 0), (35, -35))), 2)):
                self.assertEqual(told(sightings, further), told_by_words(sightings, further))
        self.assertEqual(told([(plain(10), 3)], deal), ("unsure", 3, 63))

    def test_no_sighting(self):
        self.assertEqual((known([]), first_wrong([])), ((1, (0,)), None))
        self.assertEqual(told([], plain(1)), ("sure", 0))
        self.assertEqual(told([], plain(7)), ("unsure", 0, 1))

    def test_form_of_the_deal(self):
        # The modulus is that of the forms, not of what is handed in.
        twice = (8, ((0, 0), (4, -4)))
        self.assertEqual(known([(twice, 3)]), (4, (3,)))
        self.assertEqual(known([(twice, 3), (plain(6), 4)]), (12, ()))
        self.assertEqual(known([((9, ((0, 0), (3, -3), (6, -6))), 3)]), (3, ()))

    def test_twenty(self):
        sightings = [(plain(k + 1), 1 if k else 0) for k in range(20)]
        self.assertEqual(known(sightings), (232792560, (1,)))
        self.assertEqual(first_wrong(sightings[:7] + [(plain(8), 0)] + sightings[8:]), 7)
        with self.assertRaises(InvalidSightings):
            known(sightings + [(plain(1), 0)])


class TestGreatPeriods(unittest.TestCase):

    def test_without_common_divisors(self):
        mark = 7 ** 60
        sightings = [(plain(GREAT - k), mark % (GREAT - k)) for k in (0, 1)]
        modulus, remainders = known(sightings)
        self.assertEqual((modulus, remainders), (GREAT * (GREAT - 1), (mark % modulus,)))
        self.assertEqual(first_wrong(sightings), None)
        self.assertEqual(told(sightings, plain(2)), ("sure", 1))
        found = told(sightings, plain(GREAT - 3))
        self.assertEqual(found, ("unsure", mark % modulus, mark % modulus + modulus))

    def test_with_common_divisors(self):
        sightings = [(plain(6 * 10 ** 28), 5), (plain(4 * 10 ** 28), 5), (plain(10 ** 28), 6)]
        self.assertEqual(known(sightings[:2]), (12 * 10 ** 28, (5,)))
        self.assertEqual(known(sightings), (12 * 10 ** 28, ()))
        self.assertEqual(first_wrong(sightings), 2)
        self.assertEqual(told(sightings[:2], plain(3 * 10 ** 28)), ("sure", 5))
        self.assertEqual(told(sightings, plain(3)), ("never",))

    def test_splits(self):
        deal = linear(10 ** 29, 3 * 10 ** 29)
        sightings = [(deal, 10 ** 29 + 1)]
        self.assertEqual(known(sightings), (4 * 10 ** 29, (10 ** 29 + 1, 3 * 10 ** 29 + 1)))
        self.assertEqual(told(sightings, plain(2 * 10 ** 29)), ("sure", 10 ** 29 + 1))
        self.assertEqual(told(sightings, plain(4 * 10 ** 29)), ("unsure", 10 ** 29 + 1, 3 * 10 ** 29 + 1))

    def test_against_each_other(self):
        chance = random.Random(63)
        for _ in range(100):
            mark = chance.randrange(GREAT ** 3)
            deals = [linear(base, base + chance.randrange(base)) for base in (chance.randint(1, 10 ** 28) for _ in range(4))]
            sightings = [(deal, place_in(deal, mark)) for deal in deals]
            modulus, remainders = known(sightings)
            self.assertIn(mark % modulus, remainders)
            for remainder in remainders:
                for further in (remainder, remainder + modulus):
                    self.assertTrue(all(place_in(deal, further) == place for deal, place in sightings))
            self.assertEqual(told(sightings, deals[0]), ("sure", sightings[0][1]))


class TestErrors(unittest.TestCase):

    def test_invalid_sightings(self):
        for wrong in wrong_sightings():
            with self.subTest(str(wrong)[:200]):
                for function in (known, first_wrong, lambda sightings: told(sightings, None)):
                    with self.assertRaises(InvalidSightings):
                        function(wrong)

    def test_invalid_deal(self):
        for wrong in wrong_deals():
            for sightings in ([], [(PLAIN, 1)], many_left(3)):
                with self.assertRaises(InvalidDeal):
                    told(sightings, wrong)

    def test_too_many(self):
        self.assertEqual(len(known(many_left(2))[1]), 36)
        # 216 are left behind the third sighting; those behind it would leave one mark, or none.
        few, none = (plain(60 * 77 * 221), 3), (plain(60), 4)
        for sightings in (many_left(3), many_left(3) + [few], many_left(3) + [none]):
            self.assertTrue(too_many_by_words(sightings[:3]))
            for function in (known, first_wrong, lambda told_ones: told(told_ones, PLAIN)):
                with self.assertRaises(TooMany):
                    function(sightings)
        # Ahead of them they leave few or none.
        self.assertEqual(len(known([few] + many_left(3))[1]), 1)
        self.assertEqual(first_wrong(many_left(2) + [none] + many_left(3)), 2)

    def test_a_hundred(self):
        # Of each deal these remainders go to the place 0.
        def sighting(period, remainders):
            return ((period, tuple((remainder, -remainder) for remainder in remainders)), 0)

        five, six = (0, 20, 40, 60, 80), (0, 20, 40, 60, 80, 100)
        self.assertEqual(len(known([sighting(101, five), sighting(103, five), sighting(107, five[:4])])[1]), 100)
        # Of five even remainders and an odd one, and of three even and two odd ones, 17 pairs have marks: 6 * 17 is 102.
        pairs = [sighting(202, (0, 2, 4, 6, 8, 9)), sighting(206, (0, 2, 4, 5, 7))]
        self.assertEqual(len(known(pairs + [sighting(107, five)])[1]), 85)
        just = [sighting(404, (0, 23, 26, 34, 36)), sighting(206, (0, 4, 24, 26, 34, 39)), sighting(214, (0, 4, 5, 8, 20, 32))]
        self.assertEqual(sum((r - s) % 2 == 0 and (r - t) % 2 == 0 for r in (0, 23, 26, 34, 36)
                             for s in (0, 4, 24, 26, 34, 39) for t in (0, 4, 5, 8, 20, 32)), 101)
        for function in (known, first_wrong):
            for sightings in (pairs + [sighting(107, six)], just):
                with self.assertRaises(TooMany):
                    function(sightings)


if __name__ == "__main__":
    unittest.main()
