"""Calls with the greatest inputs return within a few seconds."""

import random
import time
import unittest
from itertools import islice
from math import gcd

from bymarks.chains import check_chain, ends, own_marks, ring_share, starved, walk, ways
from bymarks.classes import check_class, is_within, left_out, meet, meet_all
from bymarks.counts import below, common_share, nth
from bymarks.deals import check_deal, form, linear, place_of, plain, split, uses
from bymarks.dealvalues import Deal
from bymarks.desk import Watch, try_all
from bymarks.errors import InvalidLine, InvalidNumber, TooMany
from bymarks.floors import sums
from bymarks.needless import needless, weakest, without
from bymarks.patterns import below_pattern, nth_pattern, pattern_of, patterns
from bymarks.plans import check_plan
from bymarks.rules import (
    check_rule, names_in, needs, place_by, reaches, rule_flow, rule_moved, rule_parting, rule_shares,
)
from bymarks.runs import agreement, flow, parting, share, together
from bymarks.search import deeds, judge, place_patterns, play, verdict, verdicts, wrong_below, wrong_share
from bymarks.seen import first_wrong, known, told
from bymarks.sets import (
    check_term, classes_in, term_below, term_has, term_least, term_nth, term_outside, term_parting, term_period,
    term_share,
)
from bymarks.texts import paper_text, read_paper
from bymarks.values import Marks
from tests.samples import exclusive, fold, fold_flat, term_of_size
from tests.samples_chains import line_of, tree_of
from tests.samples_deals import GREAT
from tests.samples_families import great_family
from tests.samples_plans import OLD, Store, some_plan
from tests.samples_rules import rule_of_places

LIMIT = 5


def coprime_moduli(many, greatest):
    """So many great moduli of which no two have a prime in common."""
    found = []
    while len(found) < many:
        if all(gcd(greatest, modulus) == 1 for modulus in found):
            found.append(greatest)
        greatest -= 1
    return found


class Timed(unittest.TestCase):

    def timed(self, function, *arguments):
        begin = time.perf_counter()
        found = function(*arguments)
        self.assertLess(time.perf_counter() - begin, LIMIT, function.__name__)
        return found


class TestClassesAndTerms(Timed):

    def test_classes(self):
        great = 10 ** 301 - 1
        whole = 10 ** 2999
        for top in (great, whole):
            same = [(top - 2 * k, 5) for k in range(40)]
            self.assertEqual(self.timed(meet_all, same)[0], "class")
            self.assertEqual(self.timed(meet_all, [(top, 0)] * 39 + [(top, 1)]), ("bar", 0, 39))
            self.timed(meet, (top, 5), (top - 2, 5))
            self.timed(is_within, (top, 5), (top - 2, 5))
            self.timed(left_out, (top, 5), [(2 ** k, 0) for k in range(1, 11)])
            self.timed(left_out, (top, 5), [(top * 2 ** k, 5 + top * (2 ** (k - 1) - 1)) for k in range(1, 11)])

    def test_terms_of_sixty(self):
        term = term_of_size(60)
        for function in (check_term, classes_in, term_least, term_share, term_period):
            self.timed(function, term)
        self.timed(term_has, term, 10 ** 301 - 1)

    def test_eight_classes(self):
        parts = [("class", modulus, modulus // 3) for modulus in coprime_moduli(8, 10 ** 60)]
        pairs = [("or", parts[k], parts[k + 1]) for k in range(0, 8, 2)]
        mixed = fold("or", [exclusive(parts[k], parts[k + 1]) for k in range(0, 8, 2)])
        for term in (fold_flat("or", parts), fold_flat("and", parts), fold_flat("and", pairs), mixed):
            self.timed(term_least, term)
            self.timed(term_share, term)
            self.timed(term_parting, term, ("not", term))
            self.timed(term_outside, term, parts[0])
            for number in (0, 10 ** 301 - 1, 10 ** 2999):
                below = self.timed(term_below, term, self.timed(term_nth, term, number))
                self.assertEqual(below, number)

    def test_period(self):
        for moduli in [(2 ** 19, 3 ** 12, 5 ** 8, 7 ** 7, 11 ** 5), (999999, 999983, 720720, 510510, 2 ** 19)]:
            parts = [("class", modulus, modulus // 7) for modulus in moduli]
            self.timed(term_period, fold("or", parts))
            self.timed(term_period, fold("or", [("not", part) for part in parts]))
            self.timed(term_period, fold("and", parts))


class Greatest:
    """Rules with places, moduli, levels and ifs up to their bounds, all of whose classes have a common mark."""

    def __init__(self, seed, names, shared, places):
        self.chance = random.Random(seed)
        self.mark = 3 ** 5000
        self.names = names
        self.shared = shared
        self.places = places
        self.told = 0

    def place(self):
        self.told += 1
        return ("place", self.told % self.places)

    def branch(self, yes, no):
        modulus = self.chance.randint(10 ** 299, 10 ** 300) // self.shared * self.shared
        return ("if", self.chance.choice(self.names), modulus, self.mark % modulus, yes, no)

    def split(self, parts):
        return ("split", self.names[0], len(parts), tuple(parts))

    def tree(self, depth):
        return self.branch(self.tree(depth - 1), self.tree(depth - 1)) if depth > 0 else self.place()

    def line(self, length, last):
        return self.branch(self.place(), self.line(length - 1, last)) if length > 0 else last

    def all(self):
        """One rule of each shape."""
        return [
            self.split([self.tree(4), self.tree(4), self.tree(3)]),
            self.line(4, self.split([self.split([self.place() for _ in range(9)]) for _ in range(4)])),
            self.split([self.line(4, self.place()) for _ in range(8)]),
            self.line(3, self.split([self.split([self.tree(1), self.tree(1)]) for _ in range(9)])),
        ]


class TestRules(Timed):

    def rules(self):
        """Lists of great rules: with one name or two, with and without common divisors, with many places or two."""
        found = []
        for seed, names in enumerate([["h"], ["a", "b"]]):
            for shared in (1, 10 ** 150, 2 ** 20 * 3 ** 5 * 5):
                for places in (10 ** 9, 2):
                    found.append(Greatest(seed, names, shared, places).all())
        return found

    def test_one_rule(self):
        for rules in self.rules():
            for rule in rules:
                self.assertIsNone(check_rule(rule))
                for function in (needs, rule_shares):
                    self.timed(function, rule)
                self.timed(reaches, rule, 1)
                self.assertIsNone(self.timed(rule_parting, rule, rule))
                self.assertEqual(self.timed(rule_moved, rule, rule), (0, 1))

    def test_two_rules(self):
        for rules in self.rules():
            for one, other in zip(rules, rules[1:] + rules[:1]):
                for function in (rule_parting, rule_flow, rule_moved):
                    self.timed(function, one, other)

    def test_covered_classes(self):
        # Of 256 marks in a row of each part, the last one alone lies in none of the classes of both rules.
        def line(first, last):
            rule = last
            for k in range(first, first + 4):
                rule = ("if", "h", 2 ** k, 2 ** (k - 1) - 1, ("place", 0), rule)
            return rule

        def parts(many, inner, begin):
            return ("split", "h", many, tuple(
                ("split", "h", inner, tuple(("place", begin + k * inner + i) for i in range(inner))) for k in range(many)
            ))

        one, other = line(1, parts(7, 5, 1)), line(5, parts(11, 3, 100))
        self.assertEqual(self.timed(rule_parting, one, other), {"h": 0})
        self.assertEqual(len(self.timed(rule_flow, one, other)), 33 + 35 + 35 * 33)
        self.assertEqual(self.timed(rule_moved, one, other), (1, 1))
        self.assertEqual(self.timed(reaches, one, 1), {"h": 175})


class TestChains(Timed):

    def test_many_ways(self):
        chance = random.Random(21)
        told = 0
        while told < 40:
            choosers, names = "abcdef", chance.choice(["h", "hi", "hij", "hijk"])
            chain = {}
            for chooser in choosers:
                nexts = [name for name in choosers if name != chooser]
                chance.shuffle(nexts)
                modulus = chance.randint(2, 6)
                chain[chooser] = (chance.choice(names), modulus, tuple((nexts + ["x"])[:modulus]))
            try:
                many = len(self.timed(ways, chain, "a"))
            except TooMany:
                continue
            told += many > 300
            for function in (ends, ring_share, starved, own_marks):
                self.timed(function, chain, "a")

    def test_own_marks(self):
        self.assertEqual(self.timed(own_marks, line_of((6,) * 6, "h" * 6), "a"), list("abcde"))
        whole = {c: ("h", 6, tuple("abcdef"[(k + i) % 6] for i in range(6))) for k, c in enumerate("abcdef")}
        self.timed(own_marks, whole, "a")
        with self.assertRaises(TooMany):
            self.timed(own_marks, tree_of((6, 6, 6, 6, 6, 6), "hijkhi"), "a")


def folded(period, shift):
    """A deal with six pieces."""
    return (period, tuple((period * k // 6, -(period * k // 6) if k % 2 else shift) for k in range(6)))


def two_pieces(period):
    return (period, ((0, 0), (period // 3, -(period // 3))))


def neighbours(most):
    """The greatest two numbers up to a bound for which divisors are found by the most steps."""
    one, other = 1, 1
    while one + other <= most:
        one, other = other, one + other
    return one, other


class TestDeals(Timed):

    def test_forms_and_uses(self):
        for deal in [folded(GREAT, 5), folded(GREAT - 4, 0), plain(GREAT), linear(1, 2 ** 99 - 1)]:
            self.timed(form, deal)
            self.timed(uses, deal)
        with self.assertRaises(InvalidNumber):
            self.timed(linear, 1, 10 ** 301 - 1)

    def test_lists(self):
        for deals in [
            [folded(GREAT, 5), folded(GREAT - 1, 2)],
            [two_pieces(GREAT - k) for k in (0, 1, 3)] + [(GREAT - 9, folded(GREAT - 9, 0)[1][:4]), two_pieces(GREAT - 27)],
            [(GREAT - k, folded(GREAT - k, k)[1][:4]) for k in (0, 1, 3)] + [plain(GREAT - 9), plain(GREAT - 27)],
        ]:
            for function in (together, agreement, parting):
                self.timed(function, deals)
        self.timed(flow, folded(GREAT, 5), folded(GREAT - 1, 2), 12345, 12346)


class TestCounts(Timed):

    def test_sums(self):
        one, other = neighbours(10 ** 40)
        for step, by in [(one, other), (10 ** 40, 10 ** 40 - 1), (10 ** 40 - 1, 10 ** 40)]:
            self.timed(sums, 10 ** 40, step, by // 3, by)

    def test_families(self):
        chance = random.Random(22)
        for one, other in [neighbours(10 ** 60), (10 ** 60, 10 ** 60 - 1), (10 ** 60 - 12345, 3 ** 125)]:
            for shape in [(8, 8), (64, 1), (1, 64)]:
                families = [great_family(chance, one, shape[0]), great_family(chance, other, shape[1])]
                self.timed(below, families, 10 ** 301 - 1)
                self.timed(common_share, families)
            for shape in [(2, 2), (4, 1), (1, 4)]:
                families = [great_family(chance, one, shape[0]), great_family(chance, other, shape[1])]
                for number in (0, 10 ** 301 - 1):
                    mark = self.timed(nth, families, number)
                    self.assertEqual(self.timed(below, families, mark), number)

    def test_patterns(self):
        top = neighbours(10 ** 12)
        lists = [
            [two_pieces(top[0]), two_pieces(top[1]), plain(10 ** 12), plain(top[1] - top[0])],
            [two_pieces(10 ** 12 - 1), plain(10 ** 12 - 7), two_pieces(10 ** 12 - 11), plain(10 ** 12 - 17)],
            [(GREAT - k, folded(GREAT - k, k)[1][:4]) for k in (0, 1, 3)],
            [folded(GREAT - k, k) for k in (0, 7)] + [plain(neighbours(GREAT)[1])],
            [folded(GREAT - k, k) for k in (0, 7)],
        ]
        for deals in lists:
            self.timed(pattern_of, deals, 10 ** 301 - 1)
            for pattern, _, mark in self.timed(patterns, deals):
                self.assertEqual(pattern_of(deals, mark), pattern)
                further = self.timed(nth_pattern, deals, pattern, 10 ** 301 - 1)
                self.assertEqual(self.timed(below_pattern, deals, pattern, further), 10 ** 301 - 1)


def great_deals(many):
    """So many deals with great periods and 64 or 36 pieces, multiplied."""
    if many == 3:
        return [(GREAT - k, folded(GREAT - k, k)[1][:4]) for k in (0, 1, 3)]
    return [folded(GREAT - k, k) for k in (0, 7)[:many]]


def long_history(chance, plan, mark):
    """A history of a thousand deeds."""
    store, history = Store(plan, mark), []
    while len(history) < 1000:
        allowed = store.allowed()
        history.append(chance.choice([deed for deed in allowed if deed != ("next",) or len(allowed) == 1] or allowed))
        store.do(history[-1])
    return history


class TestPlans(Timed):

    def test_some_plans(self):
        chance = random.Random(23)
        for many in (1, 2, 3):
            deals = great_deals(many)
            for _ in range(12):
                plan = some_plan(chance, deals, 2 if many == 3 else 4)
                for function in (place_patterns, verdict, verdicts, wrong_share):
                    self.timed(function, plan)
                self.timed(wrong_below, plan, 10 ** 301 - 1)

    def test_right_plans(self):
        # Of these plans nearly all states are gone through, for three places or two.
        slow = [
            (great_deals(3), ((("renew", 1, 2), ("fill", 2, 1)), (("drop", 1, 2), ("fill", 1, 2))), ((1, 0), (1,)), ((1, 2), (1, 2))),
            (great_deals(2), ((("fill", 1, 0), ("renew", 1, 0)),) * 4, ((1, 0),) * 4, ((1, 0),) * 4),
            (great_deals(2), ((("drop", 0, 1), ("fill", 0, 1)),) * 4, ((1, 0),) * 4, ((1, 0),) * 4),
        ]
        for deals, moves, puts, looks in slow:
            phases = tuple((puts[k], looks[k], (), moves[k], "any" if k else "done") for k in range(len(moves)))
            for lag in (False, True):
                plan = (tuple(deals), phases, True, lag)
                self.timed(verdicts, plan)
                self.timed(verdict, plan)

    def test_histories(self):
        chance = random.Random(24)
        for many in (1, 2, 3):
            plan = some_plan(chance, great_deals(many), 2)
            history = long_history(chance, plan, 10 ** 301 - 1)
            for function in (deeds, play, judge):
                self.timed(function, plan, 10 ** 301 - 1, history)

    def test_needless(self):
        # Eight items of a right plan with the greatest deals.
        for graves in (False, True):
            clears = () if graves else (0,)
            phase = ((0, 1), (0, 1), clears, (("fill", 0, 1), ("renew", 0, 1)), "done")
            plan = (tuple(great_deals(3)), (phase, OLD[:2] + (clears, (), "done")), graves, True)
            right = (tuple(great_deals(3)), ((phase[:2] + (() if graves else (0, 1),) + phase[3:]),), graves, True)
            for function in (needless, weakest):
                self.timed(function, right)
            self.timed(verdict, plan)


def sightings_with(many, step):
    """Twenty sightings with great periods and moduli, of which the first two or three leave many remainders."""
    found = []
    for k in range(20):
        pieces = {0: 6, 1: 4, 2: 4}.get(k, 1) if many else 1
        # The periods have small divisors in common alone, and these divide all remainders that go to the place.
        gap = 9 * 5 * 7 * 11 * 13 * 17 * 19
        found.append(((GREAT - 1 - step - 2 * k, tuple((i * gap, -i * gap) for i in range(pieces))), 0))
    return found


class TestWatching(Timed):

    def test_sightings(self):
        for many in (False, True):
            sightings = sightings_with(many, 0)
            self.timed(known, sightings)
            self.timed(first_wrong, sightings)
            self.timed(told, sightings, folded(GREAT, 0))

    def test_watch(self):
        watch = Watch()
        begin = time.perf_counter()
        for k, thing in enumerate("abcdefgh"):
            watch.enter(thing)
            for deal, place in sightings_with(True, 1000 * k):
                watch.see(thing, deal, place)
        self.assertLess(time.perf_counter() - begin, LIMIT)
        self.assertEqual(len(watch.remainders("a")[1]), 96)
        self.timed(watch.unlike)
        self.timed(watch.shared, "a", "b")
        self.timed(watch.shared, "h", "h")
        self.timed(watch.where, "a", folded(GREAT, 0))

    def test_try_all(self):
        rows = [("block", [("enter", "a"), ("see", "a", plain(GREAT), 5), ("unknown",)]), ("enter", "a"), ("undo",)] * 333
        self.timed(try_all, Watch(), rows)
        sightings = [("see", "a") + one for one in sightings_with(True, 0)]
        self.timed(try_all, Watch(), [("enter", "a")] + (sightings + [("undo",)] * 20) * 20)


    def test_merge(self):
        watch = Watch()
        for thing, part in (("a", slice(0, 10)), ("b", slice(10, 20))):
            watch.enter(thing)
            for deal, place in sightings_with(True, 0)[part]:
                watch.see(thing, deal, place)
        self.timed(watch.merge, "a", "b")
        self.assertEqual(len(watch.remainders("a")[1]), 96)
        for function in (watch.things, watch.undo, lambda: len(watch), lambda: "b" in watch, lambda: watch["b"]):
            self.timed(function)


class TestShortCalls(Timed):

    def test_checks(self):
        great = 10 ** 301 - 1
        rule, deals = rule_of_places(40), great_deals(3)
        chain = {chooser: ("h", 6, tuple("bcdefa")) for chooser in "abcdef"}
        phase = ((0, 1), (2, 1), (0, 1, 2), (("drop", 2, 0), ("fill", 2, 0)), "done")
        plan = (tuple(deals), (phase, phase), False, True)
        for function, *arguments in [
            (check_class, (great, great - 1)), (check_rule, rule), (names_in, rule), (place_by, rule, {"h": great}),
            (check_chain, chain), (walk, chain, "a", {"h": great}), (check_deal, deals[0]), (place_of, deals[0], great),
            (plain, GREAT), (split, GREAT // 2, GREAT // 2 - 1), (share, deals[0], great), (check_plan, plan),
            (without, plan, ("move", 1, 1)), (below, [great_family(random.Random(25), 10 ** 60, 64)], great),
        ]:
            self.timed(function, *arguments)


class TestTexts(Timed):

    def test_many_entries(self):
        rule = rule_of_places(40)
        phase = ((0, 1), (1, 0), (0, 1), (("fill", 0, 1), ("renew", 0, 1)), "done")
        plan = ((plain(GREAT), folded(GREAT - 1, 2)), (phase,) * 4, False, True)
        chain = {chooser: ("h", 6, ("abcdef", "b", "c", "x", "y", "zzzzzzzz")) for chooser in "abcdef"}
        letters = "abcdefghijklmnopqrstuvwxyz"
        names = [one + other for one in letters for other in letters if one + other not in ("if", "or")]
        entries = [("deal", "a", plan[0][0]), ("deal", "b", plan[0][1])]
        entries += [(kind, name, value) for name in names[:330] for kind, value in (("rule", rule), ("chain", chain), ("plan", plan))]
        text = self.timed(paper_text, entries)
        self.assertEqual(self.timed(read_paper, text), entries)

    def test_long_texts(self):
        for text in ("x" * 20000, "\n" * 20000, "deal a 4" + " 0+0" * 4900, "chain c\n" + "a h x\n" * 3000, "9" * 20000,
                     "chain c\n" + "".join(f"{c}{d}{e} h x\n" for c in "abcdefghij" for d in "ghijklmnop" for e in "qrstuvwxyz"),
                     "rule r split h 9999 " + "place 0 and " * 1660 + "place 0", "rule r " + "split h 1 " * 49 + "place 0",
                     "rule r " + "split h 37 " * 49 + "place 0 and " * 1600, "deal d 4 0+0\nplan p" + " d" * 9000,
                     "deal d 4 0+0\nplan p d\n" + "phase any\nput 0\nlook 0\n" * 800 + "end"):
            with self.assertRaises(InvalidLine) if text.strip() else self.subTest():
                self.timed(read_paper, text)


class TestValues(Timed):

    def test_marks(self):
        parts = [("class", modulus, modulus // 3) for modulus in coprime_moduli(8, 10 ** 60)]
        for term in (fold_flat("or", parts), fold_flat("and", parts), fold("or", [("and", parts[k], parts[k + 4]) for k in range(4)])):
            marks = self.timed(Marks, term)
            begin = time.perf_counter()
            self.assertEqual(list(islice(marks.each(), 10))[9], marks[9])
            self.assertLess(time.perf_counter() - begin, LIMIT)
            for function in (marks.portion, marks.first, lambda: bool(marks), lambda: marks == ~marks, lambda: ~marks):
                self.timed(function)
            self.timed(marks.counted, 10 ** 301 - 1)
            for other in (parts[0][1:], ~marks, marks):
                for function in (marks.inside, marks.__and__, marks.__or__, marks.__sub__, marks.__rand__):
                    self.timed(function, other)
            self.assertEqual(self.timed(lambda: marks[10 ** 2999]), marks[10 ** 2999])
        moduli = (2 ** 19, 3 ** 12, 5 ** 8, 7 ** 7, 11 ** 5)
        self.timed(Marks(fold("or", [("class", modulus, modulus // 7) for modulus in moduli])).least_period)

    def test_deals(self):
        one, other = [self.timed(Deal, data) for data in great_deals(2)]
        for function in (lambda: one == other, lambda: one & other, lambda: one ^ other, lambda: one[0], lambda: one >> 5):
            self.timed(function)


if __name__ == "__main__":
    unittest.main()
