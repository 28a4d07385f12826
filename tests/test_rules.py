"""Stage 3, points [8] and [9]: rules."""

import copy
import unittest
from fractions import Fraction
from math import lcm

from bymarks.errors import InvalidMark, InvalidRule, TooMany
from bymarks.rules import (
    check_rule, names_in, needs, place_by, reaches, rule_flow, rule_moved, rule_parting, rule_shares,
)
from tests.samples import other_values, wrong_numbers
from tests.samples_rules import (
    HERE, THERE, all_marks, follow, fraction, places_in, right_names, rule_of_ifs, rule_of_levels, rule_of_places,
    rule_within, shares_of, some_pairs, too_great_rules, wrong_rules,
)

GREAT = 10 ** 300
TWO = ("split", "h", 2, (HERE, THERE))
ONE_RULE = {
    "check_rule": check_rule, "names_in": names_in, "needs": needs, "rule_shares": rule_shares,
    "place_by": lambda rule: place_by(rule, {"h": 3}), "reaches": lambda rule: reaches(rule, 0),
}
TWO_RULES = {"rule_parting": rule_parting, "rule_flow": rule_flow, "rule_moved": rule_moved}


class TestCheckRule(unittest.TestCase):

    def test_right_rules(self):
        for rule in [HERE, ("place", GREAT), ("if", "h", 1, 0, HERE, THERE), ("if", "h", GREAT, GREAT - 1, HERE, HERE)]:
            self.assertIsNone(check_rule(rule))
        for many in range(2, 13):
            self.assertIsNone(check_rule(("split", "h", many, (HERE,) * many)))
        for name in right_names():
            self.assertIsNone(check_rule(("if", name, 4, 1, HERE, THERE)))
            self.assertIsNone(check_rule(("split", name, 2, (HERE, THERE))))
        for pair in some_pairs(1, 100):
            for rule in pair:
                self.assertIsNone(check_rule(rule))

    def test_wrong_rules(self):
        for wrong in wrong_rules() + too_great_rules():
            for name, function in ONE_RULE.items():
                with self.subTest(f"{name} {repr(wrong)[:100]}"):
                    with self.assertRaises(InvalidRule):
                        function(wrong)

    def test_wrong_ones_of_two(self):
        for wrong in wrong_rules()[::3] + too_great_rules():
            for function in TWO_RULES.values():
                for one, other in [(wrong, TWO), (TWO, wrong), (wrong, wrong)]:
                    with self.assertRaises(InvalidRule):
                        function(one, other)

    def test_sizes(self):
        self.assertEqual([places_in(rule_of_places(many)) for many in (39, 40, 41)], [39, 40, 41])
        rule_20 = rule_of_places(20)
        four = [(k, 0) for k in range(2, 6)]
        both = rule_of_ifs([(2, 0)], name="b")
        for rule in [
            rule_of_places(39), rule_of_places(40), ("split", "h", 2, (rule_20, rule_20)), rule_of_levels(8),
            rule_of_ifs(four), rule_within(four), ("split", "h", 2, (rule_of_ifs(four), rule_within(four))),
            ("if", "h", 2, 0, rule_of_ifs(four[:3]), rule_within(four[:3])),
            ("split", "a", 3, (HERE, both, rule_within([(2, 1)], both, "a"))),
        ]:
            self.assertIsNone(check_rule(rule))

    def test_no_name_is_a_word(self):
        with self.assertRaises(InvalidRule):
            check_rule(("if", "place", 4, 1, HERE, THERE))
        self.assertIsNone(check_rule(("if", "places", 4, 1, HERE, THERE)))

    def test_names_in(self):
        self.assertEqual(names_in(HERE), [])
        self.assertEqual(names_in(TWO), ["h"])
        self.assertEqual(names_in(("if", "b", 2, 0, ("split", "a", 2, (TWO[3][0], HERE)), HERE)), ["a", "b"])
        self.assertEqual(names_in(("if", "b", 2, 0, rule_of_ifs([(3, 0)], name="b"), HERE)), ["b"])
        found = names_in(TWO)
        found.append("more")
        self.assertEqual(names_in(TWO), ["h"])


class TestPlaceBy(unittest.TestCase):

    def test_against_the_words(self):
        for pair in some_pairs(2, 100):
            for rule in pair:
                for marks in all_marks(pair)[:200]:
                    self.assertEqual(place_by(rule, marks), follow(rule, marks))

    def test_further_keys(self):
        marks = {"h": 3, "a": -1, "b": None, 7: [], None: 3, "split": True, ("h",): 2}
        kept = copy.deepcopy(marks)
        self.assertEqual(place_by(TWO, marks), 1)
        self.assertEqual(place_by(HERE, marks), 0)
        self.assertEqual(place_by(HERE, {}), 0)
        self.assertEqual(marks, kept)

    def test_great(self):
        self.assertEqual(place_by(("if", "h", GREAT, 7, ("place", GREAT), THERE), {"h": 7 + 3 * GREAT}), GREAT)
        self.assertEqual(place_by(("if", "h", GREAT, 7, ("place", GREAT), THERE), {"h": 8 + 3 * GREAT}), 1)

    def test_invalid_marks(self):
        two = ("if", "b", 2, 0, ("split", "a", 2, (HERE, THERE)), HERE)
        for wrong in wrong_numbers():
            for marks in [{"h": wrong}, {"h": wrong, "a": 3}]:
                with self.assertRaises(InvalidMark):
                    place_by(TWO, marks)
            # The mark of each name has to be there, also one that is not looked at.
            for marks in [{"a": wrong, "b": 1}, {"a": 1, "b": wrong}]:
                with self.assertRaises(InvalidMark):
                    place_by(two, marks)
        for marks in [{}, {"a": 3}, {"H": 3}, {"hh": 3}]:
            with self.assertRaises(InvalidMark):
                place_by(TWO, marks)
        for marks in [{"a": 3}, {"b": 3}]:
            with self.assertRaises(InvalidMark):
                place_by(two, marks)
        for wrong in other_values():
            for rule in (TWO, HERE):
                if not isinstance(wrong, dict):
                    with self.assertRaises(InvalidMark):
                        place_by(rule, wrong)

    def test_behind_invalid_rule(self):
        for wrong in [None, {}, {"h": -1}]:
            with self.assertRaises(InvalidRule):
                place_by(("split", "h", 1, (HERE,)), wrong)


class TestAgainstGoingThrough(unittest.TestCase):

    def test_two_rules(self):
        for one, other in some_pairs(3, 250) + [[HERE, HERE], [HERE, THERE], [HERE, TWO], [TWO, TWO]]:
            with self.subTest((one, other)):
                things = all_marks([one, other])
                told = [(follow(one, marks), follow(other, marks)) for marks in things]
                parted = [marks for marks, (a, b) in zip(things, told) if a != b]
                self.assertEqual(rule_parting(one, other), parted[0] if parted else None)
                self.assertEqual(rule_flow(one, other), shares_of(told))
                self.assertEqual(rule_moved(one, other), fraction(Fraction(len(parted), len(things))))
                self.assertIsNone(rule_parting(one, one))
                self.assertEqual(rule_moved(other, other), (0, 1))

    def test_one_rule(self):
        for pair in some_pairs(4, 150) + [[HERE, TWO]]:
            for rule in pair:
                with self.subTest(rule):
                    things = all_marks([rule])
                    told = [follow(rule, marks) for marks in things]
                    self.assertEqual(rule_shares(rule), shares_of(told))
                    for place in range(6):
                        first = told.index(place) if place in told else None
                        self.assertEqual(reaches(rule, place), None if first is None else things[first])
                    self.compare_needs(rule, things)

    def compare_needs(self, rule, things):
        found = needs(rule)
        for name in names_in(rule):
            by_others = {}
            for marks in things:
                others = tuple(marks[further] for further in marks if further != name)
                by_others.setdefault(others, set()).add(follow(rule, marks))
            self.assertEqual(name in found, any(len(places) > 1 for places in by_others.values()))
        for name, (marks, mark) in found.items():
            self.assertEqual(sorted(marks), names_in(rule))
            self.assertNotEqual(place_by(rule, marks), place_by(rule, {**marks, name: mark}))

    def test_least_marks_of_two_names(self):
        # The least mark of the first name comes first, wherever it stands in the rule.
        rule = ("if", "b", 5, 4, ("if", "a", 3, 0, THERE, HERE), ("if", "a", 3, 2, THERE, HERE))
        self.assertEqual(reaches(rule, 1), {"a": 0, "b": 4})
        self.assertEqual(rule_parting(rule, HERE), {"a": 0, "b": 4})
        self.assertEqual(rule_parting(HERE, rule), {"a": 0, "b": 4})
        self.assertEqual(list(rule_parting(HERE, ("if", "b", 5, 4, THERE, HERE)).items()), [("b", 4)])

    def test_names_of_both(self):
        one, other = rule_of_ifs([(3, 0)], name="b"), rule_of_ifs([(2, 0)], HERE, name="a")
        self.assertEqual(rule_parting(one, other), {"a": 0, "b": 1})
        self.assertEqual(rule_flow(one, other), {(10, 10): (1, 6), (10, 0): (1, 6), (1, 10): (1, 3), (1, 0): (1, 3)})
        self.assertEqual(rule_moved(one, other), (5, 6))
        self.assertEqual(rule_parting(("place", 3), ("place", 4)), {})
        self.assertEqual(reaches(HERE, 0), {})

    def test_places_that_no_marks_tell(self):
        rule = ("if", "h", 4, 1, ("if", "h", 2, 0, ("place", 7), HERE), THERE)
        self.assertEqual(rule_shares(rule), {0: (1, 4), 1: (3, 4)})
        self.assertEqual(rule_flow(rule, TWO), {(0, 1): (1, 4), (1, 0): (1, 2), (1, 1): (1, 4)})
        self.assertIsNone(reaches(rule, 7))
        cover = rule_of_ifs([(2, 0), (3, 0), (6, 1), (6, 5)], ("place", 9))
        self.assertIsNone(reaches(cover, 9))
        self.assertEqual(sorted(rule_shares(cover)), [10, 11, 12, 13])
        same = ("if", "h", 3, 1, HERE, ("split", "h", 5, (HERE,) * 5))
        self.assertEqual([needs(same), rule_shares(same), rule_parting(same, HERE)], [{}, {0: (1, 1)}, None])


class TestReachesAnyValue(unittest.TestCase):

    def test_what_is_no_place(self):
        for wrong in wrong_numbers() + ["place", ("place", 1), [[], {}, ({},)]]:
            for rule in (TWO, HERE, THERE):
                self.assertIsNone(reaches(rule, wrong))

    def test_great_places(self):
        rule = ("if", "h", 10, 3, ("place", GREAT), HERE)
        self.assertEqual(reaches(rule, GREAT), {"h": 3})
        self.assertIsNone(reaches(rule, GREAT + 1))
        self.assertIsNone(reaches(rule, 10 ** 301 - 1))


class TestGreatModuli(unittest.TestCase):
    """Moduli of hundreds of digits: the answers follow from what the rules are."""

    moduli = [GREAT - k for k in (0, 1, 9, 27)]
    mark = 7 ** 1500

    def test_remainders_of_one_mark(self):
        classes = [(modulus, self.mark % modulus) for modulus in self.moduli]
        whole = lcm(*self.moduli)
        least = self.mark % whole
        deep = rule_within(classes)
        self.assertEqual(reaches(deep, 1), {"h": least})
        self.assertEqual(rule_shares(deep), {1: (1, whole), 0: (whole - 1, whole)})
        self.assertEqual(rule_parting(deep, HERE), {"h": least})
        self.assertEqual(rule_moved(deep, HERE), (1, whole))
        self.assertEqual(rule_flow(deep, rule_within(classes[::-1])), {(1, 1): (1, whole), (0, 0): (whole - 1, whole)})
        marks, mark = needs(deep)["h"]
        self.assertEqual(sorted([place_by(deep, marks), place_by(deep, {"h": mark})]), [0, 1])

    def test_halves_of_one_mark(self):
        # Each rule alone takes two of the four classes, both together all of them.
        classes = [(modulus, self.mark % modulus) for modulus in self.moduli]
        one, other = rule_within(classes[:2]), rule_within(classes[2:])
        first, second, whole = lcm(*self.moduli[:2]), lcm(*self.moduli[2:]), lcm(*self.moduli)
        flow = rule_flow(one, other)
        self.assertEqual(flow[1, 1], (1, whole))
        self.assertEqual(flow[1, 0], fraction(Fraction(1, first) - Fraction(1, whole)))
        self.assertEqual(flow[0, 1], fraction(Fraction(1, second) - Fraction(1, whole)))
        self.assertEqual(sum(Fraction(*share) for share in flow.values()), 1)
        self.assertEqual(rule_moved(one, other), fraction(Fraction(1, first) + Fraction(1, second) - Fraction(2, whole)))
        both = rule_within(classes[:2], rule_within(classes[2:], ("place", 2)))
        self.assertEqual(reaches(both, 2), {"h": self.mark % whole})

    def test_classes_apart(self):
        shared = 10 ** 150
        one, other = (shared * 3, 5), (shared * 7, 6)
        rule = rule_within([one, other])
        self.assertIsNone(reaches(rule, 1))
        self.assertEqual(rule_shares(rule), {0: (1, 1)})
        self.assertEqual(needs(rule), {})
        self.assertIsNone(rule_parting(rule, HERE))
        outside = rule_of_ifs([one, other])
        self.assertEqual(rule_shares(outside)[1], fraction(1 - Fraction(10, 21 * shared)))
        self.assertEqual(rule_flow(rule_within([one]), rule_within([other])), {
            (0, 0): fraction(1 - Fraction(10, 21 * shared)), (1, 0): (1, one[0]), (0, 1): (1, other[0]),
        })

    def test_covered_but_for_the_last(self):
        # Of sixteen marks in a row of the class within, the last one alone is in none of the four others.
        modulus = GREAT // 32
        rule = THERE
        for k in range(1, 5):
            rule = ("if", "h", modulus * 2 ** k, (2 ** (k - 1) - 1) * modulus + 5, HERE, rule)
        within = ("if", "h", modulus, 5, HERE, THERE)
        self.assertEqual(rule_parting(rule, within), {"h": 5 + 15 * modulus})
        self.assertEqual(rule_moved(rule, within), (1, 16 * modulus))
        self.assertEqual(rule_flow(rule, within)[1, 0], (1, 16 * modulus))
        self.assertEqual(reaches(rule, 0), {"h": 5})

    def test_two_names(self):
        one = ("if", "a", GREAT, 7, ("if", "b", GREAT - 1, 8, THERE, HERE), HERE)
        self.assertEqual(reaches(one, 1), {"a": 7, "b": 8})
        self.assertEqual(rule_shares(one)[1], (1, GREAT * (GREAT - 1)))
        self.assertEqual(sorted(needs(one)), ["a", "b"])
        self.assertEqual(rule_parting(one, HERE), {"a": 7, "b": 8})
        self.assertEqual(rule_moved(one, HERE), (1, GREAT * (GREAT - 1)))


class TestTooMany(unittest.TestCase):

    def test_three_names(self):
        def of(*names):
            return rule_within([(2, 0)], of(*names[1:]), names[0]) if names else THERE
        for function in TWO_RULES.values():
            for one, other in [(of("a", "b"), of("c")), (of("c"), of("a", "b")), (of("a", "b"), of("c", "d")),
                               (of("a", "b"), of("b", "c"))]:
                with self.assertRaises(TooMany):
                    function(one, other)
            function(of("a", "b"), of("b", "a"))
            function(of("a"), of("b"))
            function(of("a", "b"), HERE)

    def test_behind_invalid_rule(self):
        many = rule_within([(2, 0)], rule_within([(2, 0)], name="b"), "a")
        for function in TWO_RULES.values():
            for wrong in [("if", "c", 2, 0, HERE, ("place", -1)), ("split", "c", 1, (HERE,)), None]:
                for one, other in [(many, wrong), (wrong, many)]:
                    with self.assertRaises(InvalidRule):
                        function(one, other)


class TestShares(unittest.TestCase):

    def test_they_add_up_to_one(self):
        for one, other in some_pairs(5, 60, most=100000):
            for found in (rule_shares(one), rule_flow(one, other)):
                self.assertEqual(sum(Fraction(*share) for share in found.values()), 1)
                for share in found.values():
                    self.assertEqual(share, fraction(Fraction(*share)))
                    self.assertGreater(share[0], 0)


if __name__ == "__main__":
    unittest.main()
