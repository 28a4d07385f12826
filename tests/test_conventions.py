"""Point [2] for the functions there are: signatures, kinds of values, arguments that stay, time."""

import copy
import inspect
import time
import unittest
from math import gcd

from bymarks import classes, sets
from bymarks.classes import is_within, left_out, meet, meet_all
from bymarks.sets import (
    check_term, classes_in, term_below, term_has, term_least, term_nth, term_outside, term_parting, term_period,
    term_share,
)
from tests.samples import exclusive, fold, fold_flat, some_terms, term_of_size

SIGNATURES = {
    classes: ["check_class(value)", "meet(one, other)", "meet_all(classes)", "is_within(one, other)",
              "left_out(within, classes)"],
    sets: ["check_term(term)", "term_has(term, mark)", "classes_in(term)", "term_least(term)",
           "term_parting(one, other)", "term_outside(one, other)", "term_share(term)", "term_below(term, n)",
           "term_nth(term, k)", "term_period(term)"],
}
LIMIT = 5


def coprime_moduli(many, greatest):
    """So many great moduli of which no two have a prime in common."""
    found = []
    while len(found) < many:
        if all(gcd(greatest, modulus) == 1 for modulus in found):
            found.append(greatest)
        greatest -= 1
    return found


class TestInterface(unittest.TestCase):

    def test_signatures(self):
        for module, listed in SIGNATURES.items():
            for line in listed:
                function = getattr(module, line.partition("(")[0])
                self.assertEqual(function.__name__ + str(inspect.signature(function)), line)
                self.assertEqual(function.__module__, module.__name__)

    def test_kinds_of_answers(self):
        self.assertIs(type(meet((4, 1), (6, 3))), tuple)
        self.assertIs(type(meet_all([(4, 1)])[1]), tuple)
        for term in some_terms(11, 100):
            self.assertIs(type(classes_in(term)), list)
            self.assertIs(type(term_share(term)), tuple)
            self.assertEqual([type(part) for part in term_share(term)], [int, int])
            self.assertIs(type(term_below(term, 7)), int)
            self.assertIs(type(term_period(term)), int)
            self.assertIs(type(term_has(term, 3)), bool)

    def test_arguments_stay(self):
        given = [(4, 1), (9, 2), (6, 0), (4, 1)]
        kept = copy.deepcopy(given)
        for _ in range(2):
            self.assertEqual(meet_all(given), ("bar", 0, 2))
            self.assertEqual(left_out((5, 2), given), 7)
            self.assertEqual(given, kept)

    def test_equal_answers_to_equal_calls(self):
        for term in some_terms(12, 50):
            for function in (classes_in, term_least, term_share, term_period):
                self.assertEqual(function(term), function(copy.deepcopy(term)))


class TestTime(unittest.TestCase):
    """Calls with the greatest inputs return within a few seconds."""

    def timed(self, function, *arguments):
        begin = time.perf_counter()
        found = function(*arguments)
        self.assertLess(time.perf_counter() - begin, LIMIT, function.__name__)
        return found

    def test_classes(self):
        great = 10 ** 301 - 1
        whole = 10 ** 2999
        for top in (great, whole):
            same = [(top - 2 * k, 5) for k in range(40)]
            self.assertEqual(self.timed(meet_all, same)[0], "class")
            self.assertEqual(self.timed(meet_all, [(top, 0)] * 39 + [(top, 1)]), ("bar", 0, 39))
            self.timed(meet, (top, 5), (top - 2, 5))
            self.timed(is_within, (top, 5), (top - 2, 5))
            self.timed(left_out, (top, 5), [(2 ** k, 0) for k in range(1, 11)])
            self.timed(left_out, (top, 5), [(top * 2 ** k, 5 + top * (2 ** (k - 1) - 1)) for k in range(1, 11)])

    def test_terms_of_sixty(self):
        term = term_of_size(60)
        for function in (check_term, classes_in, term_least, term_share, term_period):
            self.timed(function, term)
        self.timed(term_has, term, 10 ** 301 - 1)

    def test_eight_classes(self):
        parts = [("class", modulus, modulus // 3) for modulus in coprime_moduli(8, 10 ** 60)]
        pairs = [("or", parts[k], parts[k + 1]) for k in range(0, 8, 2)]
        mixed = fold("or", [exclusive(parts[k], parts[k + 1]) for k in range(0, 8, 2)])
        for term in (fold_flat("or", parts), fold_flat("and", parts), fold_flat("and", pairs), mixed):
            self.timed(term_least, term)
            self.timed(term_share, term)
            self.timed(term_parting, term, ("not", term))
            self.timed(term_outside, term, parts[0])
            for number in (0, 10 ** 301 - 1, 10 ** 2999):
                below = self.timed(term_below, term, self.timed(term_nth, term, number))
                self.assertEqual(below, number)

    def test_period(self):
        for moduli in [(2 ** 19, 3 ** 12, 5 ** 8, 7 ** 7, 11 ** 5), (999999, 999983, 720720, 510510, 2 ** 19)]:
            parts = [("class", modulus, modulus // 7) for modulus in moduli]
            self.timed(term_period, fold("or", parts))
            self.timed(term_period, fold("or", [("not", part) for part in parts]))
            self.timed(term_period, fold("and", parts))


if __name__ == "__main__":
    unittest.main()
