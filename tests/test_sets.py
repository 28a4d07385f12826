"""Stage 2, points [6] and [7]: sets of marks."""

import unittest
from math import gcd, lcm

from bymarks.errors import InvalidMark, InvalidNumber, InvalidTerm, TooMany
from bymarks.sets import (
    check_term, classes_in, term_below, term_has, term_least, term_nth, term_outside, term_parting, term_period,
    term_share,
)
from tests.samples import (
    exclusive, fold, fold_flat, in_set, levels_of, size_of, some_terms, term_of_levels, term_of_size, wrong_numbers,
    wrong_terms,
)

EVEN = ("class", 2, 0)
ALL = ("all",)
NONE = ("none",)
EMPTY_SETS = [NONE, ("not", ALL), ("and", EVEN, ("class", 4, 1)), ("and", EVEN, ("not", EVEN))]
FULL_SETS = [ALL, ("not", NONE), ("or", EVEN, ("class", 2, 1)), ("class", 1, 0), ("or", EVEN, ("not", EVEN))]
GREAT = 10 ** 60
NINE = fold_flat("or", [("class", 20, k) for k in range(9)])
TOO_GREAT = ("class", GREAT + 1, 0)

ONE_TERM = {
    "check_term": check_term, "classes_in": classes_in, "term_least": term_least, "term_share": term_share,
    "term_period": term_period, "term_has": lambda term: term_has(term, 3),
    "term_below": lambda term: term_below(term, 3), "term_nth": lambda term: term_nth(term, 3),
}
TWO_TERMS = {"term_parting": term_parting, "term_outside": term_outside}
COUNTING = ["term_least", "term_share", "term_below", "term_nth"]


def modulus_of(*terms):
    """A common multiple of the moduli in the terms."""
    return lcm(1, *[one[0] for term in terms for one in classes_in(term)])


def marks_of(term, bound):
    """Go through the marks below the bound for those of the set."""
    return [mark for mark in range(bound) if in_set(term, mark)]


def first_of(marks):
    return marks[0] if marks else None


class TestCheckTerm(unittest.TestCase):

    def test_right_terms(self):
        for term in [ALL, NONE, EVEN, ("not", EVEN), ("and", ALL, EVEN), ("or", ("not", NONE), EVEN)] + EMPTY_SETS:
            self.assertIsNone(check_term(term))
        for term in some_terms(1, 200):
            self.assertIsNone(check_term(term))

    def test_wrong_terms(self):
        for wrong in wrong_terms():
            with self.subTest(repr(wrong)[:100]):
                with self.assertRaises(InvalidTerm):
                    check_term(wrong)

    def test_sizes(self):
        for many in (1, 2, 59, 60):
            self.assertEqual(size_of(term_of_size(many)), many)
            self.assertIsNone(check_term(term_of_size(many)))
        for many in (61, 62, 200, 999):
            with self.assertRaises(InvalidTerm):
                check_term(term_of_size(many))

    def test_what_stands_twice_counts_twice(self):
        half = term_of_size(29)
        self.assertIsNone(check_term(("not", ("and", half, half))))
        half = term_of_size(30)
        with self.assertRaises(InvalidTerm):
            check_term(("and", half, half))

    def test_levels(self):
        for levels in (1, 2, 15, 16):
            self.assertEqual(levels_of(term_of_levels(levels)), levels)
            self.assertIsNone(check_term(term_of_levels(levels)))
        for levels in (17, 18, 50):
            with self.assertRaises(InvalidTerm):
                check_term(term_of_levels(levels))
        deep = term_of_levels(15)
        self.assertIsNone(check_term(("and", deep, EVEN)))
        self.assertIsNone(check_term(("or", EVEN, deep)))
        for wrong in [("and", ("not", deep), EVEN), ("or", EVEN, ("not", deep))]:
            with self.assertRaises(InvalidTerm):
                check_term(wrong)

    def test_greatest_moduli(self):
        self.assertIsNone(check_term(("class", 10 ** 300, 10 ** 300 - 1)))
        for wrong in [("class", 10 ** 300 + 1, 0), ("not", ("class", 10 ** 300 + 1, 7)), ("class", 10 ** 301 - 1, 1)]:
            with self.assertRaises(InvalidTerm):
                check_term(wrong)


class TestWrongTerms(unittest.TestCase):

    def test_of_one_term(self):
        for wrong in wrong_terms() + [term_of_size(61), term_of_levels(17)]:
            for name, function in ONE_TERM.items():
                with self.subTest(f"{name} {repr(wrong)[:100]}"):
                    with self.assertRaises(InvalidTerm):
                        function(wrong)

    def test_of_two_terms(self):
        for wrong in wrong_terms() + [term_of_size(61), term_of_levels(17)]:
            for name, function in TWO_TERMS.items():
                for one, other in [(wrong, EVEN), (EVEN, wrong), (wrong, wrong), (NINE, wrong), (wrong, NINE)]:
                    with self.subTest(f"{name} {repr((one, other))[:100]}"):
                        with self.assertRaises(InvalidTerm):
                            function(one, other)

    def test_ahead_of_other_errors(self):
        for wrong in [("not", NINE, NINE), None, ("not", ("class", 10 ** 300 + 1, 0))]:
            for function in (term_has, term_below, term_nth):
                for number in wrong_numbers():
                    with self.assertRaises(InvalidTerm):
                        function(wrong, number)


class TestTermHas(unittest.TestCase):

    def test_against_the_words(self):
        for term in some_terms(2, 300):
            for mark in range(40):
                self.assertIs(term_has(term, mark), in_set(term, mark))

    def test_great(self):
        one = ("class", 10 ** 300, 10 ** 300 - 1)
        self.assertIs(term_has(one, 10 ** 300 - 1), True)
        self.assertIs(term_has(one, 2 * 10 ** 300 - 1), True)
        self.assertIs(term_has(one, 10 ** 300), False)
        self.assertIs(term_has(("not", one), 10 ** 301 - 1), False)
        # No number of classes is too many here.
        self.assertIs(term_has(NINE, 8), True)
        self.assertIs(term_has(("and", NINE, TOO_GREAT), 9), False)

    def test_what_is_no_mark(self):
        for wrong in wrong_numbers():
            for term in (ALL, NONE, EVEN, NINE):
                with self.assertRaises(InvalidMark):
                    term_has(term, wrong)


class TestClassesIn(unittest.TestCase):

    def test_ascending_without_repetitions(self):
        term = fold("or", [("class", 3, 1), ("class", 2, 1), ("not", ("class", 3, 0)), EVEN, ("class", 3, 1), EVEN])
        self.assertEqual(classes_in(term), [(2, 0), (2, 1), (3, 0), (3, 1)])
        self.assertEqual(classes_in(ALL), [])
        self.assertEqual(classes_in(("and", NONE, ("not", ALL))), [])
        self.assertEqual(classes_in(("and", ("class", 10, 0), ("class", 9, 8))), [(9, 8), (10, 0)])
        self.assertEqual(classes_in(("or", NINE, TOO_GREAT)), [(20, k) for k in range(9)] + [(GREAT + 1, 0)])

    def test_new_each_time(self):
        found = classes_in(EVEN)
        found.append("more")
        self.assertEqual(classes_in(EVEN), [(2, 0)])


class TestAgainstGoingThrough(unittest.TestCase):

    def test_one_term(self):
        for term in some_terms(3, 400) + EMPTY_SETS + FULL_SETS:
            with self.subTest(term):
                period = modulus_of(term)
                marks = marks_of(term, period)
                self.assertEqual(term_least(term), first_of(marks))
                shared = gcd(len(marks), period)
                self.assertEqual(term_share(term), (len(marks) // shared, period // shared))
                for n in list(range(30)) + [period - 1, period, period + 1, 2 * period + 3]:
                    turns, rest = divmod(n, period)
                    below = turns * len(marks) + sum(mark < rest for mark in marks)
                    self.assertEqual(term_below(term, n), below)
                for k in list(range(20)) + [len(marks) - 1, len(marks), 5 * len(marks) + 2] if marks else []:
                    turns, rest = divmod(k, len(marks))
                    self.assertEqual(term_nth(term, k), turns * period + marks[rest])

    def test_period(self):
        for term in some_terms(4, 400, most_classes=5) + EMPTY_SETS + FULL_SETS:
            with self.subTest(term):
                whole = modulus_of(term)
                row = [in_set(term, mark) for mark in range(whole)]
                least = min(p for p in range(1, whole + 1) if whole % p == 0 and row == row[p:] + row[:p])
                self.assertEqual(term_period(term), least)

    def test_two_terms(self):
        terms = some_terms(5, 400, most_classes=3) + EMPTY_SETS + FULL_SETS
        for one, other in zip(terms, terms[1:] + terms[:1]):
            self.compare(one, other)
            self.compare(other, other)

    def compare(self, one, other):
        with self.subTest((one, other)):
            bound = modulus_of(one, other)
            parted = [mark for mark in range(bound) if in_set(one, mark) != in_set(other, mark)]
            outside = [mark for mark in parted if in_set(one, mark)]
            self.assertEqual(term_parting(one, other), first_of(parted))
            self.assertEqual(term_outside(one, other), first_of(outside))

    def test_eight_classes(self):
        for term in some_terms(6, 40, most_classes=8, greatest=9):
            marks = marks_of(term, 2520)
            shared = gcd(len(marks), 2520)
            self.assertEqual(term_share(term), (len(marks) // shared, 2520 // shared))
            self.assertEqual(term_least(term), first_of(marks))
            for k in range(0, len(marks), 97):
                self.assertEqual(term_nth(term, k), marks[k])


class TestEmptyAndFull(unittest.TestCase):

    def test_empty(self):
        for term in EMPTY_SETS:
            self.assertIsNone(term_least(term))
            self.assertEqual(term_share(term), (0, 1))
            self.assertEqual(term_below(term, 10 ** 300), 0)
            self.assertEqual(term_period(term), 1)
            self.assertIsNone(term_parting(term, NONE))
            self.assertIsNone(term_outside(term, EVEN))

    def test_full(self):
        for term in FULL_SETS:
            self.assertEqual(term_least(term), 0)
            self.assertEqual(term_share(term), (1, 1))
            self.assertEqual(term_below(term, 10 ** 300), 10 ** 300)
            self.assertEqual(term_nth(term, 10 ** 300), 10 ** 300)
            self.assertEqual(term_period(term), 1)
            self.assertIsNone(term_parting(ALL, term))
            self.assertEqual(term_parting(term, NONE), 0)
            self.assertIsNone(term_outside(EVEN, term))


class TestGreat(unittest.TestCase):
    """Moduli up to 10 ** 60, whose answers follow from what the sets are."""

    def test_one_class(self):
        one = ("class", GREAT, 12345)
        self.assertEqual(term_least(one), 12345)
        self.assertEqual(term_share(one), (1, GREAT))
        self.assertEqual([term_below(one, 12345 + k + 7 * GREAT) for k in (0, 1)], [7, 8])
        self.assertEqual(term_nth(one, 10 ** 300), 12345 + 10 ** 360)
        self.assertEqual(term_nth(("not", one), 12345), 12346)
        self.assertEqual(term_share(("not", one)), (GREAT - 1, GREAT))
        self.assertEqual(term_outside(one, ("class", GREAT // 10, 12345)), None)
        self.assertEqual(term_outside(("class", GREAT // 10, 12345), one), 12345 + GREAT // 10)
        self.assertEqual(term_parting(one, ("class", GREAT, 12346)), 12345)
        self.assertEqual(term_parting(("class", GREAT, 12346), one), 12345)

    def test_eight_classes(self):
        moduli = [GREAT - k for k in (0, 1, 3, 9, 11, 17, 27, 29)]
        mark = 1234567890 ** 50
        classes = [("class", modulus, mark % modulus) for modulus in moduli]
        whole = lcm(*moduli)
        every = fold_flat("and", classes)
        self.assertEqual(term_least(every), mark % whole)
        self.assertEqual(term_share(every), (1, whole))
        self.assertEqual(term_nth(every, 10 ** 300), mark % whole + 10 ** 300 * whole)
        self.assertEqual(term_below(every, mark % whole + 10 ** 300 * whole), 10 ** 300)
        some = fold_flat("or", classes)
        self.assertEqual(term_least(some), min(one[2] for one in classes))
        self.assertEqual(term_outside(every, some), None)
        first, second = sorted(one[2] for one in classes)[:2]
        self.assertEqual([term_nth(some, 0), term_nth(some, 1)], [first, second])
        self.assertEqual(term_parting(some, fold_flat("or", classes[::-1])), None)
        self.assertEqual(term_parting(some, ("not", fold_flat("and", [("not", one) for one in classes]))), None)
        at = term_nth(some, 10 ** 300)
        self.assertEqual([term_below(some, at), term_below(some, at + 1)], [10 ** 300, 10 ** 300 + 1])
        self.assertTrue(term_has(some, at))

    def test_share_of_coprime_classes(self):
        one, other = ("class", GREAT, 5), ("class", GREAT - 1, 5)
        both = (GREAT + GREAT - 1 - 1, GREAT * (GREAT - 1))
        shared = gcd(*both)
        self.assertEqual(term_share(("or", one, other)), (both[0] // shared, both[1] // shared))
        self.assertEqual(term_least(("and", exclusive(one, other), ("not", ("class", GREAT, 5)))), 5 + GREAT - 1)

    def test_period_of_great_moduli(self):
        six = [("class", 1000000, k) for k in (0, 200000, 400000, 600000, 800000)]
        self.assertEqual(term_period(fold("or", six)), 200000)
        self.assertEqual(term_period(fold("or", six[:4])), 1000000)
        self.assertEqual(term_period(("or", ("class", 999983, 1), ("class", 1000000, 1))), 999983 * 1000000)
        self.assertEqual(term_period(("and", ("class", 999983, 1), ("not", ("class", 999983, 1)))), 1)
        powers = [("class", modulus, 3) for modulus in (2 ** 19, 3 ** 12, 5 ** 8, 7 ** 7, 11 ** 5)]
        whole = lcm(*[one[1] for one in powers])
        self.assertEqual(term_period(fold("or", powers)), whole)
        self.assertEqual(term_period(fold("and", powers)), whole)


class TestTooMany(unittest.TestCase):

    def refused(self, function, *arguments):
        with self.subTest(repr(arguments)[:100]):
            with self.assertRaises(TooMany):
                function(*arguments)

    def test_classes_of_one_term(self):
        eight = fold_flat("or", [("class", 20, k) for k in range(8)])
        for name in COUNTING:
            self.refused(ONE_TERM[name], NINE)
            self.refused(ONE_TERM[name], ("and", NINE, NONE))
            ONE_TERM[name](eight)
            ONE_TERM[name](("and", eight, eight))
        self.refused(term_period, NINE)
        self.refused(term_period, eight)

    def test_classes_of_two_terms(self):
        classes = [("class", 20, k) for k in range(9)]
        one, other = fold_flat("or", classes[:5]), fold_flat("or", classes[5:])
        for function in TWO_TERMS.values():
            self.refused(function, one, other)
            self.refused(function, other, one)
            self.refused(function, NINE, ALL)
            self.refused(function, ALL, NINE)
            self.assertEqual(function(one, fold_flat("or", classes[5:8])), 0)
            self.assertIsNone(function(one, one))
            self.assertEqual(function(fold_flat("or", classes[:8]), fold_flat("or", classes[1:5])), 0)

    def test_greatest_moduli(self):
        right = ("class", GREAT, 1)
        for name in COUNTING:
            self.refused(ONE_TERM[name], TOO_GREAT)
            self.refused(ONE_TERM[name], ("and", NONE, TOO_GREAT))
            ONE_TERM[name](right)
        for function in TWO_TERMS.values():
            self.refused(function, TOO_GREAT, TOO_GREAT)
            self.refused(function, TOO_GREAT, EVEN)
            self.refused(function, EVEN, TOO_GREAT)
            self.assertIsNone(function(right, right))
        self.refused(term_period, TOO_GREAT)

    def test_period(self):
        classes = [("class", 30, k) for k in range(6)]
        self.refused(term_period, fold_flat("or", classes))
        self.assertEqual(term_period(fold_flat("or", classes[:5] + classes[:5])), 30)
        self.refused(term_period, ("class", 1000001, 0))
        self.refused(term_period, ("or", ALL, ("class", 1000001, 0)))
        self.assertEqual(term_period(("class", 1000000, 0)), 1000000)


class TestInvalidNumber(unittest.TestCase):

    def test_what_is_no_number(self):
        for wrong in wrong_numbers():
            for term in [ALL, EVEN] + EMPTY_SETS:
                for function in (term_below, term_nth):
                    with self.assertRaises(InvalidNumber):
                        function(term, wrong)

    def test_empty_set(self):
        for term in EMPTY_SETS:
            for k in (0, 1, 10 ** 300):
                with self.assertRaises(InvalidNumber):
                    term_nth(term, k)

    def test_behind_too_many(self):
        empty = ("and", NINE, NONE)
        for wrong in wrong_numbers():
            for term in (NINE, TOO_GREAT, empty):
                for function in (term_below, term_nth):
                    with self.assertRaises(TooMany):
                        function(term, wrong)
        with self.assertRaises(TooMany):
            term_nth(empty, 0)


if __name__ == "__main__":
    unittest.main()
