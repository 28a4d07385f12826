"""Calls with the greatest inputs return within a few seconds."""

import random
import time
import unittest
from math import gcd

from bymarks.chains import ends, own_marks, ring_share, starved, ways
from bymarks.classes import is_within, left_out, meet, meet_all
from bymarks.counts import below, common_share, nth
from bymarks.deals import form, linear, plain, uses
from bymarks.errors import InvalidNumber, TooMany
from bymarks.floors import sums
from bymarks.patterns import below_pattern, nth_pattern, pattern_of, patterns
from bymarks.rules import check_rule, needs, reaches, rule_flow, rule_moved, rule_parting, rule_shares
from bymarks.runs import agreement, flow, parting, together
from bymarks.sets import (
    check_term, classes_in, term_below, term_has, term_least, term_nth, term_outside, term_parting, term_period,
    term_share,
)
from tests.samples import exclusive, fold, fold_flat, term_of_size
from tests.samples_chains import line_of, tree_of
from tests.samples_deals import GREAT
from tests.samples_families import great_family

LIMIT = 5


def coprime_moduli(many, greatest):
    """So many great moduli of which no two have a prime in common."""
    found = []
    while len(found) < many:
        if all(gcd(greatest, modulus) == 1 for modulus in found):
            found.append(greatest)
        greatest -= 1
    return found


class Timed(unittest.TestCase):

    def timed(self, function, *arguments):
        begin = time.perf_counter()
        found = function(*arguments)
        self.assertLess(time.perf_counter() - begin, LIMIT, function.__name__)
        return found


class TestClassesAndTerms(Timed):

    def test_classes(self):
        great = 10 ** 301 - 1
        whole = 10 ** 2999
        for top in (great, whole):
            same = [(top - 2 * k, 5) for k in range(40)]
            self.assertEqual(self.timed(meet_all, same)[0], "class")
            self.assertEqual(self.timed(meet_all, [(top, 0)] * 39 + [(top, 1)]), ("bar", 0, 39))
            self.timed(meet, (top, 5), (top - 2, 5))
            self.timed(is_within, (top, 5), (top - 2, 5))
            self.timed(left_out, (top, 5), [(2 ** k, 0) for k in range(1, 11)])
            self.timed(left_out, (top, 5), [(top * 2 ** k, 5 + top * (2 ** (k - 1) - 1)) for k in range(1, 11)])

    def test_terms_of_sixty(self):
        term = term_of_size(60)
        for function in (check_term, classes_in, term_least, term_share, term_period):
            self.timed(function, term)
        self.timed(term_has, term, 10 ** 301 - 1)

    def test_eight_classes(self):
        parts = [("class", modulus, modulus // 3) for modulus in coprime_moduli(8, 10 ** 60)]
        pairs = [("or", parts[k], parts[k + 1]) for k in range(0, 8, 2)]
        mixed = fold("or", [exclusive(parts[k], parts[k + 1]) for k in range(0, 8, 2)])
        for term in (fold_flat("or", parts), fold_flat("and", parts), fold_flat("and", pairs), mixed):
            self.timed(term_least, term)
            self.timed(term_share, term)
            self.timed(term_parting, term, ("not", term))
            self.timed(term_outside, term, parts[0])
            for number in (0, 10 ** 301 - 1, 10 ** 2999):
                below = self.timed(term_below, term, self.timed(term_nth, term, number))
                self.assertEqual(below, number)

    def test_period(self):
        for moduli in [(2 ** 19, 3 ** 12, 5 ** 8, 7 ** 7, 11 ** 5), (999999, 999983, 720720, 510510, 2 ** 19)]:
            parts = [("class", modulus, modulus // 7) for modulus in moduli]
            self.timed(term_period, fold("or", parts))
            self.timed(term_period, fold("or", [("not", part) for part in parts]))
            self.timed(term_period, fold("and", parts))


class Greatest:
    """Rules with places, moduli, levels and ifs up to their bounds, all of whose classes have a common mark."""

    def __init__(self, seed, names, shared, places):
        self.chance = random.Random(seed)
        self.mark = 3 ** 5000
        self.names = names
        self.shared = shared
        self.places = places
        self.told = 0

    def place(self):
        self.told += 1
        return ("place", self.told % self.places)

    def branch(self, yes, no):
        modulus = self.chance.randint(10 ** 299, 10 ** 300) // self.shared * self.shared
        return ("if", self.chance.choice(self.names), modulus, self.mark % modulus, yes, no)

    def split(self, parts):
        return ("split", self.names[0], len(parts), tuple(parts))

    def tree(self, depth):
        return self.branch(self.tree(depth - 1), self.tree(depth - 1)) if depth > 0 else self.place()

    def line(self, length, last):
        return self.branch(self.place(), self.line(length - 1, last)) if length > 0 else last

    def all(self):
        """One rule of each shape."""
        return [
            self.split([self.tree(4), self.tree(4), self.tree(3)]),
            self.line(4, self.split([self.split([self.place() for _ in range(9)]) for _ in range(4)])),
            self.split([self.line(4, self.place()) for _ in range(8)]),
            self.line(3, self.split([self.split([self.tree(1), self.tree(1)]) for _ in range(9)])),
        ]


class TestRules(Timed):

    def rules(self):
        """Lists of great rules: with one name or two, with and without common divisors, with many places or two."""
        found = []
        for seed, names in enumerate([["h"], ["a", "b"]]):
            for shared in (1, 10 ** 150, 2 ** 20 * 3 ** 5 * 5):
                for places in (10 ** 9, 2):
                    found.append(Greatest(seed, names, shared, places).all())
        return found

    def test_one_rule(self):
        for rules in self.rules():
            for rule in rules:
                self.assertIsNone(check_rule(rule))
                for function in (needs, rule_shares):
                    self.timed(function, rule)
                self.timed(reaches, rule, 1)
                self.assertIsNone(self.timed(rule_parting, rule, rule))
                self.assertEqual(self.timed(rule_moved, rule, rule), (0, 1))

    def test_two_rules(self):
        for rules in self.rules():
            for one, other in zip(rules, rules[1:] + rules[:1]):
                for function in (rule_parting, rule_flow, rule_moved):
                    self.timed(function, one, other)

    def test_covered_classes(self):
        # Of 256 marks in a row of each part, the last one alone lies in none of the classes of both rules.
        def line(first, last):
            rule = last
            for k in range(first, first + 4):
                rule = ("if", "h", 2 ** k, 2 ** (k - 1) - 1, ("place", 0), rule)
            return rule

        def parts(many, inner, begin):
            return ("split", "h", many, tuple(
                ("split", "h", inner, tuple(("place", begin + k * inner + i) for i in range(inner))) for k in range(many)
            ))

        one, other = line(1, parts(7, 5, 1)), line(5, parts(11, 3, 100))
        self.assertEqual(self.timed(rule_parting, one, other), {"h": 0})
        self.assertEqual(len(self.timed(rule_flow, one, other)), 33 + 35 + 35 * 33)
        self.assertEqual(self.timed(rule_moved, one, other), (1, 1))
        self.assertEqual(self.timed(reaches, one, 1), {"h": 175})


class TestChains(Timed):

    def test_many_ways(self):
        chance = random.Random(21)
        told = 0
        while told < 40:
            choosers, names = "abcdef", chance.choice(["h", "hi", "hij", "hijk"])
            chain = {}
            for chooser in choosers:
                nexts = [name for name in choosers if name != chooser]
                chance.shuffle(nexts)
                modulus = chance.randint(2, 6)
                chain[chooser] = (chance.choice(names), modulus, tuple((nexts + ["x"])[:modulus]))
            try:
                many = len(self.timed(ways, chain, "a"))
            except TooMany:
                continue
            told += many > 300
            for function in (ends, ring_share, starved, own_marks):
                self.timed(function, chain, "a")

    def test_own_marks(self):
        self.assertEqual(self.timed(own_marks, line_of((6,) * 6, "h" * 6), "a"), list("abcde"))
        whole = {c: ("h", 6, tuple("abcdef"[(k + i) % 6] for i in range(6))) for k, c in enumerate("abcdef")}
        self.timed(own_marks, whole, "a")
        with self.assertRaises(TooMany):
            self.timed(own_marks, tree_of((6, 6, 6, 6, 6, 6), "hijkhi"), "a")


def folded(period, shift):
    """A deal with six pieces."""
    return (period, tuple((period * k // 6, -(period * k // 6) if k % 2 else shift) for k in range(6)))


def two_pieces(period):
    return (period, ((0, 0), (period // 3, -(period // 3))))


def neighbours(most):
    """The greatest two numbers up to a bound for which divisors are found by the most steps."""
    one, other = 1, 1
    while one + other <= most:
        one, other = other, one + other
    return one, other


class TestDeals(Timed):

    def test_forms_and_uses(self):
        for deal in [folded(GREAT, 5), folded(GREAT - 4, 0), plain(GREAT), linear(1, 2 ** 99 - 1)]:
            self.timed(form, deal)
            self.timed(uses, deal)
        with self.assertRaises(InvalidNumber):
            self.timed(linear, 1, 10 ** 301 - 1)

    def test_lists(self):
        for deals in [
            [folded(GREAT, 5), folded(GREAT - 1, 2)],
            [two_pieces(GREAT - k) for k in (0, 1, 3)] + [(GREAT - 9, folded(GREAT - 9, 0)[1][:4]), two_pieces(GREAT - 27)],
            [(GREAT - k, folded(GREAT - k, k)[1][:4]) for k in (0, 1, 3)] + [plain(GREAT - 9), plain(GREAT - 27)],
        ]:
            for function in (together, agreement, parting):
                self.timed(function, deals)
        self.timed(flow, folded(GREAT, 5), folded(GREAT - 1, 2), 12345, 12346)


class TestCounts(Timed):

    def test_sums(self):
        one, other = neighbours(10 ** 40)
        for step, by in [(one, other), (10 ** 40, 10 ** 40 - 1), (10 ** 40 - 1, 10 ** 40)]:
            self.timed(sums, 10 ** 40, step, by // 3, by)

    def test_families(self):
        chance = random.Random(22)
        for one, other in [neighbours(10 ** 60), (10 ** 60, 10 ** 60 - 1), (10 ** 60 - 12345, 3 ** 125)]:
            for shape in [(8, 8), (64, 1), (1, 64)]:
                families = [great_family(chance, one, shape[0]), great_family(chance, other, shape[1])]
                self.timed(below, families, 10 ** 301 - 1)
                self.timed(common_share, families)
            for shape in [(2, 2), (4, 1), (1, 4)]:
                families = [great_family(chance, one, shape[0]), great_family(chance, other, shape[1])]
                for number in (0, 10 ** 301 - 1):
                    mark = self.timed(nth, families, number)
                    self.assertEqual(self.timed(below, families, mark), number)

    def test_patterns(self):
        top = neighbours(10 ** 12)
        lists = [
            [two_pieces(top[0]), two_pieces(top[1]), plain(10 ** 12), plain(top[1] - top[0])],
            [two_pieces(10 ** 12 - 1), plain(10 ** 12 - 7), two_pieces(10 ** 12 - 11), plain(10 ** 12 - 17)],
            [(GREAT - k, folded(GREAT - k, k)[1][:4]) for k in (0, 1, 3)],
            [folded(GREAT - k, k) for k in (0, 7)] + [plain(neighbours(GREAT)[1])],
            [folded(GREAT - k, k) for k in (0, 7)],
        ]
        for deals in lists:
            self.timed(pattern_of, deals, 10 ** 301 - 1)
            for pattern, _, mark in self.timed(patterns, deals):
                self.assertEqual(pattern_of(deals, mark), pattern)
                further = self.timed(nth_pattern, deals, pattern, 10 ** 301 - 1)
                self.assertEqual(self.timed(below_pattern, deals, pattern, further), 10 ** 301 - 1)


if __name__ == "__main__":
    unittest.main()
