"""Point [2] for the functions there are: signatures, kinds of values, arguments that stay, new objects, names."""

import copy
import inspect
import unittest

from bymarks import (
    chains, classes, counts, deals, desk, floors, needless, patterns, plans, rules, runs, search, seen, sets, texts,
)
from bymarks.chains import ends, own_marks, ring_share, starved, walk, ways
from bymarks.classes import left_out, meet, meet_all
from bymarks.counts import below, common_share, nth
from bymarks.deals import form, place_of, plain, split, uses
from bymarks.errors import InvalidMark
from bymarks.floors import sums
from bymarks.marks import check_mark, check_marks
from bymarks.names import is_name
from bymarks.patterns import below_pattern, nth_pattern, pattern_of
from bymarks.rules import names_in, needs, reaches, rule_flow, rule_moved, rule_parting, rule_shares
from bymarks.runs import agreement, flow, parting, share, together
from bymarks.sets import classes_in, term_below, term_has, term_least, term_period, term_share
from bymarks.search import judge, place_patterns, play, verdict, verdicts, wrong_below, wrong_share
from bymarks.seen import first_wrong, known, told
from bymarks.texts import paper_text, read_paper
from tests.samples import some_terms, wrong_numbers
from tests.samples_chains import some_chains
from tests.samples_plans import BOTH, NEW, OLD, plan_of, some_plans
from tests.samples_rules import right_names, some_pairs, wrong_names
from tests.samples_texts import some_papers

SIGNATURES = {
    classes: """check_class(value) meet(one,other) meet_all(classes) is_within(one,other) left_out(within,classes)""",
    sets: """check_term(term) term_has(term,mark) classes_in(term) term_least(term) term_parting(one,other)
        term_outside(one,other) term_share(term) term_below(term,n) term_nth(term,k) term_period(term)""",
    rules: """check_rule(rule) names_in(rule) place_by(rule,marks) rule_parting(one,other) reaches(rule,place)
        needs(rule) rule_shares(rule) rule_flow(one,other) rule_moved(one,other)""",
    chains: """check_chain(chain) walk(chain,begin,marks) ways(chain,begin) ends(chain,begin) ring_share(chain,begin)
        starved(chain,begin) own_marks(chain,begin)""",
    deals: """check_deal(deal) place_of(deal,mark) plain(modulus) split(modulus,many) linear(base,many) form(deal)
        uses(deal)""",
    runs: """share(deal,place) together(deals) agreement(deals) parting(deals) flow(one,other,start,end)""",
    floors: """sums(count,step,begin,by)""",
    counts: """below(families,bound) nth(families,number) common_share(families)""",
    patterns: """pattern_of(deals,mark) patterns(deals) below_pattern(deals,pattern,bound)
        nth_pattern(deals,pattern,number)""",
    plans: """check_plan(plan)""",
    search: """deeds(plan,mark,history) play(plan,mark,history) judge(plan,mark,history) place_patterns(plan)
        verdict(plan) verdicts(plan) wrong_share(plan) wrong_below(plan,n)""",
    needless: """without(plan,item) needless(plan) weakest(plan)""",
    seen: """known(sightings) first_wrong(sightings) told(sightings,deal)""",
    texts: """paper_text(entries) read_paper(text)""",
    desk: """try_all(watch,deeds)""",
}
LINKS = {"a": ("h", 4, ("b", "x", "b", "x")), "b": ("h", 2, ("y", "z"))}
TWO = ("split", "h", 2, (("place", 0), ("if", "g", 9, 4, ("place", 1), ("place", 7))))
DEALS = [plain(4), plain(6), split(4, 2)]
RIGHT = plan_of([OLD, BOTH, NEW])
WRONG = plan_of([OLD, BOTH, NEW], lag=True)
HISTORY = [("put", 0), ("read", 0), ("next",)]
SIGHTINGS = [(plain(4), 3), (split(4, 2), 3)]
SOME = (10, ((0, 3), (5, 7)))


def kinds(value):
    """The kinds of a value and of all in it, as a nested list."""
    if isinstance(value, dict):
        return [dict, [[kinds(key), kinds(told)] for key, told in value.items()]]
    if isinstance(value, (list, tuple)):
        return [type(value), [kinds(item) for item in value]]
    return type(value)


def containers(value):
    """All lists and dicts in a value."""
    found = [value] if isinstance(value, (list, dict)) else []
    inner = list(value) + list(value.values()) if isinstance(value, dict) else value
    if isinstance(inner, (list, tuple)):
        found += [more for item in inner for more in containers(item)]
    return found


def spoil(value):
    """Change all lists and dicts in a value."""
    for one in containers(value):
        if isinstance(one, dict):
            one["more"] = 1
        else:
            one.append("more")


def calls():
    """Calls that return lists or dicts, with functions and arguments."""
    found = [(classes_in, (term,)) for term in some_terms(13, 20)]
    found += [(function, pair) for pair in some_pairs(14, 20) for function in (rule_parting, rule_flow)]
    found += [(function, pair[:1]) for pair in some_pairs(15, 20) for function in (names_in, needs, rule_shares)]
    found += [(reaches, (pair[0], place)) for pair in some_pairs(16, 20) for place in range(3)]
    found += [(function, told) for told in some_chains(17, 20) for function in (ways, ends, starved, own_marks)]
    found += [(function, (plan,)) for plan in some_plans(18, 20) for function in (place_patterns, verdict, verdicts)]
    found += [(function, (WRONG, 5, HISTORY)) for function in (search.deeds, play, judge)]
    found += [(function, (RIGHT,)) for function in (needless.needless, needless.weakest)]
    found += [(function, (SIGHTINGS,)) for function in (known, first_wrong)] + [(told, (SIGHTINGS, plain(5)))]
    papers = some_papers(19, 20)
    found += [(paper_text, (entries,)) for entries in papers] + [(read_paper, (paper_text(entries),)) for entries in papers]
    return found + [(uses, (split(7, 3),)), (patterns.patterns, (DEALS,))]


class TestInterface(unittest.TestCase):

    def test_signatures(self):
        for module, listed in SIGNATURES.items():
            for line in listed.split():
                function = getattr(module, line.partition("(")[0])
                self.assertEqual(function.__name__ + str(inspect.signature(function)), line.replace(",", ", "))
                self.assertEqual(function.__module__, module.__name__)

    def test_checks_return_none(self):
        for function, value in [(classes.check_class, (4, 1)), (sets.check_term, ("all",)), (rules.check_rule, TWO),
                                (chains.check_chain, LINKS), (deals.check_deal, DEALS[2]), (plans.check_plan, RIGHT)]:
            self.assertIsNone(function(value))

    def test_kinds_of_classes_and_terms(self):
        self.assertIs(type(meet((4, 1), (6, 3))), tuple)
        self.assertIs(type(meet_all([(4, 1)])[1]), tuple)
        for term in some_terms(11, 100):
            self.assertIs(type(classes_in(term)), list)
            self.assertEqual(kinds(term_share(term)), [tuple, [int, int]])
            self.assertIs(type(term_below(term, 7)), int)
            self.assertIs(type(term_period(term)), int)
            self.assertIs(type(term_has(term, 3)), bool)

    def test_kinds_of_rules_and_chains(self):
        pair = [tuple, [int, int]]
        for found in (rule_moved(TWO, TWO), ring_share(LINKS, "a")):
            self.assertEqual(kinds(found), pair)
        self.assertEqual(kinds(rule_shares(TWO)), [dict, [[int, pair]] * 3])
        self.assertEqual(kinds(rule_flow(TWO, TWO)), [dict, [[pair, pair]] * 3])
        self.assertEqual(kinds(needs(TWO)), [dict, [[str, [tuple, [[dict, [[str, int]] * 2], int]]]] * 2])
        self.assertEqual(kinds(reaches(TWO, 7)), [dict, [[str, int]] * 2])
        steps = [tuple, [[tuple, [[tuple, [str, int]]]], str]]
        self.assertEqual(kinds(walk(LINKS, "b", {"h": 1})), steps)
        self.assertEqual(kinds(ways(LINKS, "b")), [list, [[tuple, [steps, [dict, [[str, pair]]]]]] * 2])
        self.assertEqual(kinds(ends(LINKS, "b")), [dict, [[str, pair]] * 2])
        rows = [list, [[tuple, [[tuple, [[tuple, [str, int]]]], int]]] * 2]
        self.assertEqual(kinds(starved(LINKS, "a")), [dict, [[[tuple, [str, int]], rows]]])
        self.assertEqual(kinds(own_marks(LINKS, "a")), [list, [str]])

    def test_kinds_of_deals(self):
        pair = [tuple, [int, int]]
        for deal in (form(DEALS[2]), split(4, 2)):
            self.assertEqual(kinds(deal), [tuple, [int, [tuple, [pair, pair]]]])
        self.assertEqual(kinds(uses(plain(3))), [list, [[tuple, [int, int, int]]]])
        self.assertIs(type(place_of(plain(3), 7)), int)
        self.assertEqual(kinds(together(DEALS[:2])), [tuple, [int, [tuple, [pair]]]])
        self.assertEqual(kinds(agreement(DEALS)), [tuple, [pair, int]])
        self.assertEqual(kinds(flow(DEALS[0], DEALS[1], 3, 3)), [tuple, [pair, int]])
        self.assertEqual([type(parting(DEALS)), kinds(share(DEALS[0], 3))], [int, pair])

    def test_kinds_of_counts_and_patterns(self):
        self.assertEqual(kinds(sums(3, 4, 5, 6)), [tuple, [int, int, int]])
        self.assertEqual([type(below([SOME], 3)), type(nth([SOME], 3))], [int, int])
        self.assertEqual(kinds(common_share([SOME])), [tuple, [int, int]])
        self.assertEqual(kinds(pattern_of(DEALS, 5)), [tuple, [[tuple, [int]], [tuple, [int, int]]]])
        found = patterns.patterns(DEALS)
        self.assertEqual(kinds(found)[0], list)
        self.assertEqual(kinds(found[0]), [tuple, [[tuple, [[tuple, [int] * 3]]], [tuple, [int, int]], int]])
        self.assertEqual(type(below_pattern(DEALS, ((0, 1, 2),), 5)), int)
        self.assertEqual(type(nth_pattern(DEALS, ((0, 1, 2),), 5)), int)

    def test_kinds_of_histories(self):
        deed = [tuple, [str, int]]
        self.assertEqual(kinds(search.deeds(WRONG, 5, HISTORY)), [list, [deed] * 7 + [[tuple, [str]]]])
        rows = play(WRONG, 5, HISTORY)
        self.assertEqual(kinds(rows), [list, [
            [tuple, [type(None), [tuple, [deed, [tuple, [str]]]]]], [tuple, [deed, [tuple, [deed, [tuple, [str]]]]]],
            [tuple, [type(None), [tuple, [deed, [tuple, [str]]]]]]]])
        self.assertIs(type(judge(WRONG, 5, HISTORY)), type(None))
        self.assertEqual(kinds(judge(WRONG, 5, verdict(WRONG)[1])), [tuple, [int, str]])
        group = [tuple, [int]]
        self.assertEqual(kinds(place_patterns(RIGHT))[1][1], [tuple, [[tuple, [group, group]], int]])
        self.assertEqual([kinds(verdict(WRONG))[0], [type(part) for part in verdict(WRONG)]], [tuple, [int, list, str]])
        self.assertEqual([type(part) for part in verdicts(WRONG)[1]], [tuple, tuple, int, tuple])
        self.assertEqual([type(part) for part in verdicts(WRONG)[1][3]], [list, str])
        self.assertEqual([kinds(wrong_share(WRONG)), type(wrong_below(WRONG, 7))], [[tuple, [int, int]], int])
        self.assertEqual(kinds(needless.without(RIGHT, ("put", 1, 0))), [tuple, [
            kinds(RIGHT[0]), [tuple, [kinds(OLD), [tuple, [group, group, kinds((0, 1)), kinds(BOTH[3]), str]], kinds(NEW)]],
            bool, bool]])

    def test_kinds_of_sightings_and_papers(self):
        self.assertEqual(kinds(known(SIGHTINGS)), [tuple, [int, [tuple, [int, int]]]])
        self.assertEqual(kinds(told(SIGHTINGS, plain(5))), [tuple, [str, int, int]])
        self.assertEqual([type(first_wrong(SIGHTINGS)), type(first_wrong(SIGHTINGS + [(plain(2), 0)]))], [type(None), int])
        entries = [("deal", "a", plain(4)), ("rule", "r", TWO), ("chain", "c", LINKS)]
        entries += [("plan", "p", plan_of([OLD], deals=(plain(4),)))]
        self.assertEqual(type(paper_text(entries)), str)
        self.assertEqual(kinds(read_paper(paper_text(entries))), kinds(entries))


class TestObjects(unittest.TestCase):

    def test_arguments_stay(self):
        given = [(4, 1), (9, 2), (6, 0), (4, 1)]
        kept = copy.deepcopy(given)
        for _ in range(2):
            self.assertEqual(meet_all(given), ("bar", 0, 2))
            self.assertEqual(left_out((5, 2), given), 7)
            self.assertEqual(given, kept)
        for function, arguments in calls():
            kept = copy.deepcopy(arguments)
            function(*arguments)
            self.assertEqual(arguments, kept)

    def test_answers_are_new(self):
        for function, arguments in calls():
            with self.subTest(f"{function.__name__}{arguments}"):
                found = function(*arguments)
                kept = copy.deepcopy(found)
                parts = containers(found) + containers(arguments)
                self.assertEqual(len({id(one) for one in parts}), len(parts))
                spoil(found)
                self.assertEqual(function(*copy.deepcopy(arguments)), kept)

    def test_equal_answers_to_equal_calls(self):
        for term in some_terms(12, 50):
            for function in (classes_in, term_least, term_share, term_period):
                self.assertEqual(function(term), function(copy.deepcopy(term)))
        for function, arguments in calls():
            self.assertEqual(function(*arguments), function(*copy.deepcopy(arguments)))


class TestNamesAndMarks(unittest.TestCase):

    def test_names(self):
        for name in right_names():
            self.assertIs(is_name(name), True)
        for wrong in wrong_names():
            self.assertIs(is_name(wrong), False)

    def test_marks(self):
        for mark in (0, 1, 10 ** 301 - 1):
            self.assertIsNone(check_mark(mark))
            self.assertIsNone(check_marks({"h": mark, "x": None}, ["h"]))
        for wrong in wrong_numbers():
            with self.assertRaises(InvalidMark):
                check_mark(wrong)
            with self.assertRaises(InvalidMark):
                check_marks({"h": wrong}, ["h"])


if __name__ == "__main__":
    unittest.main()
