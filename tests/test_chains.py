"""Stage 4, points [10] and [11]: chains."""

import copy
import unittest
from fractions import Fraction

from bymarks.chains import check_chain, ends, own_marks, ring_share, starved, walk, ways
from bymarks.errors import InvalidBegin, InvalidChain, InvalidMark, TooMany
from tests.samples import other_values, wrong_numbers
from tests.samples_chains import (
    LINK, follow_chain, least_own, line_of, reasons, share_of, some_chains, starved_exits, things_by_way, tree_of, wrong_chains,
)
from tests.samples_rules import right_names, wrong_names

LINKS = {"a": ("h", 4, ("b", "x", "b", "x")), "b": ("h", 2, ("y", "z"))}
TOLD = {"ways": ways, "ends": ends, "ring_share": ring_share, "starved": starved, "own_marks": own_marks}
WITH_BEGIN = {**TOLD, "walk": lambda chain, begin: walk(chain, begin, {"h": 3})}
# The chain has 6 * 6 * 6 * 5 ways.
TOO_MANY = tree_of((6, 6, 6, 5), "hijk")


def thousand_ways():
    """A chain with 5 * 5 * 5 * 4 * 2 ways."""
    return {
        "a": ("h", 5, ("b",) * 5), "b": ("i", 5, ("c",) * 5), "c": ("j", 5, ("d",) * 5), "d": ("k", 4, ("e",) * 4),
        "e": ("i", 2, ("x", "y")),
    }


class TestCheckChain(unittest.TestCase):

    def test_right_chains(self):
        self.assertIsNone(check_chain(LINKS))
        self.assertIsNone(check_chain({"a": ("a", 2, ("a", "a"))}))
        for many in range(2, 7):
            self.assertIsNone(check_chain({"a": ("h", many, ("x",) * many)}))
        for name in right_names():
            self.assertIsNone(check_chain({name: ("h", 2, ("x", "y"))}))
            self.assertIsNone(check_chain({"a": (name, 2, (name, "y"))}))
        self.assertIsNone(check_chain({chooser: LINK for chooser in "abcdef"}))
        self.assertIsNone(check_chain(tree_of((2,) * 6, "hijkhi")))
        for chain, _ in some_chains(1, 100):
            self.assertIsNone(check_chain(chain))

    def test_wrong_chains(self):
        for wrong in wrong_chains():
            with self.subTest(repr(wrong)[:100]):
                with self.assertRaises(InvalidChain):
                    check_chain(wrong)
                for function in WITH_BEGIN.values():
                    for begin in ("a", "b", None):
                        with self.assertRaises(InvalidChain):
                            function(wrong, begin)

    def test_order_of_keys(self):
        turned = dict(reversed(list(LINKS.items())))
        for function in TOLD.values():
            self.assertEqual(function(LINKS, "a"), function(turned, "a"))
            self.assertEqual(list(function(LINKS, "a")), list(function(LINKS, "a")))


class TestBegin(unittest.TestCase):

    def test_what_is_no_chooser(self):
        for wrong in wrong_names() + other_values() + ["x", "y", "c", "h", "aa", ("a",), ["a"], {"a": 1}, (("a", 0),)]:
            for name, function in WITH_BEGIN.items():
                with self.subTest(f"{name} {repr(wrong)[:100]}"):
                    with self.assertRaises(InvalidBegin):
                        function(LINKS, wrong)

    def test_ahead_of_other_errors(self):
        for wrong in (None, "x", ["a"]):
            for function in TOLD.values():
                with self.assertRaises(InvalidBegin):
                    function(TOO_MANY, wrong)
            with self.assertRaises(InvalidBegin):
                walk(LINKS, wrong, None)


class TestWalk(unittest.TestCase):

    def test_against_the_words(self):
        for chain, begin in some_chains(2, 60):
            for thing in [thing for things in things_by_way(chain, begin).values() for thing in things[:3]]:
                self.assertEqual(walk(chain, begin, thing), follow_chain(chain, begin, thing))

    def test_ends_and_rings(self):
        self.assertEqual(walk(LINKS, "a", {"h": 6}), ((("a", 2), ("b", 0)), "y"))
        self.assertEqual(walk(LINKS, "a", {"h": 7}), ((("a", 3),), "x"))
        self.assertEqual(walk(LINKS, "b", {"h": 7}), ((("b", 1),), "z"))
        ring = {"a": ("h", 2, ("b", "a")), "b": ("h", 3, ("c", "b", "a")), "c": ("i", 2, ("b", "x"))}
        self.assertEqual(walk(ring, "a", {"h": 1, "i": 0}), ((("a", 1),), "a"))
        self.assertEqual(walk(ring, "a", {"h": 0, "i": 0}), ((("a", 0), ("b", 0), ("c", 0)), "b"))
        self.assertEqual(walk(ring, "a", {"h": 2, "i": 0}), ((("a", 0), ("b", 2)), "a"))
        self.assertEqual(walk(ring, "a", {"h": 6, "i": 1}), ((("a", 0), ("b", 0), ("c", 1)), "x"))

    def test_marks(self):
        marks = {"h": 10 ** 301 - 1, "i": -1, 3: None, "a": True}
        kept = copy.deepcopy(marks)
        self.assertEqual(walk(LINKS, "a", marks), ((("a", 3),), "x"))
        self.assertEqual(marks, kept)

    def test_invalid_marks(self):
        # The mark of each name has to be there, also one by which this thing does not choose.
        two = {"a": ("h", 2, ("x", "y")), "b": ("i", 2, ("x", "y"))}
        for wrong in wrong_numbers():
            for marks in [{"h": wrong, "i": 1}, {"h": 1, "i": wrong}]:
                with self.assertRaises(InvalidMark):
                    walk(two, "a", marks)
        for wrong in [{}, {"h": 1}, {"i": 1}, {"a": 1, "b": 1}] + other_values():
            with self.assertRaises(InvalidMark):
                walk(two, "a", wrong)


class TestAgainstGoingThrough(unittest.TestCase):

    def test_all(self):
        for chain, begin in some_chains(3, 150):
            with self.subTest((chain, begin)):
                given = copy.deepcopy(chain)
                found = things_by_way(chain, begin)
                self.compare_ways(chain, begin, found)
                self.compare_ends(chain, begin, found)
                self.compare_starved(chain, begin, found)
                self.assertEqual(chain, given)

    def compare_ways(self, chain, begin, found):
        told = ways(chain, begin)
        self.assertEqual([way for way, _ in told], sorted(found))
        for (steps, last), classes in told:
            self.assertEqual(sorted(classes), sorted({chain[chooser][0] for chooser, _ in steps}))
            things = [thing for more in found.values() for thing in more]
            inside = [t for t in things if all(t[name] % m == r for name, (m, r) in classes.items())]
            self.assertEqual(inside, [thing for thing in things if follow_chain(chain, begin, thing) == (steps, last)])

    def compare_ends(self, chain, begin, found):
        by_last = {}
        for (_, last), things in found.items():
            by_last[last] = by_last.get(last, []) + things
        shares = {last: share_of(things, found) for last, things in by_last.items() if last not in chain}
        self.assertEqual(ends(chain, begin), shares)
        rings = [thing for last, things in by_last.items() if last in chain for thing in things]
        self.assertEqual(ring_share(chain, begin), share_of(rings, found))
        total = sum(Fraction(*share) for share in shares.values()) + Fraction(*ring_share(chain, begin))
        self.assertEqual(total, 1)

    def compare_starved(self, chain, begin, found):
        told = starved(chain, begin)
        self.assertEqual(set(told), starved_exits(chain, found))
        for (chooser, i), rows in told.items():
            self.assertEqual(rows, reasons(chain, found, chooser, i))

    def test_own_marks(self):
        sizes = set()
        for chain, begin in some_chains(4, 120) + some_chains(5, 80, most_marks=1):
            with self.subTest((chain, begin)):
                given = copy.deepcopy(chain)
                found = own_marks(chain, begin)
                self.assertEqual(found, least_own(chain, begin))
                self.assertEqual(chain, given)
                sizes.add(len(found))
        self.assertLessEqual({0, 1, 2, 3}, sizes)


class TestStarved(unittest.TestCase):

    def test_reasons(self):
        chain = {"a": ("h", 2, ("b", "c")), "b": ("i", 3, ("c", "x", "y")), "c": ("h", 4, ("x", "y", "x", "y"))}
        self.assertEqual(starved(chain, "a"), {})
        chain["a"] = ("h", 2, ("b", "x"))
        heads = [(("a", 0), ("b", 0))]
        self.assertEqual(starved(chain, "a"), {("c", 1): [(heads[0], 0)], ("c", 3): [(heads[0], 0)]})
        self.assertEqual(own_marks(chain, "a"), ["a"])
        self.assertEqual(starved(chain, "c"), {})

    def test_later_exit_bars(self):
        chain = {"a": ("h", 3, ("b", "b", "b")), "b": ("h", 4, ("c", "x", "c", "x")), "c": ("h", 2, ("x", "y"))}
        rows = [((("a", i), ("b", j)), 1) for i in range(3) for j in (0, 2)]
        self.assertEqual(starved(chain, "a"), {("c", 1): rows})

    def test_first_coming(self):
        # Things come to a again by both exits of b; only the first coming counts, and there nothing is barred.
        chain = {"a": ("h", 2, ("b", "x")), "b": ("i", 2, ("a", "a"))}
        self.assertEqual(starved(chain, "a"), {})
        self.assertEqual(starved(chain, "b"), {})
        self.assertEqual([ring_share(chain, "a"), ends(chain, "a")], [(1, 2), {"x": (1, 2)}])

    def test_choosers_to_which_nothing_comes(self):
        chain = {"a": ("h", 2, ("b", "x")), "b": ("h", 2, ("x", "c")), "c": ("h", 2, ("x", "y"))}
        self.assertEqual(starved(chain, "a"), {("b", 1): [((("a", 0),), 0)]})
        # With a mark of its own b lets things come to c, where another exit is starved then.
        self.assertEqual(own_marks(chain, "a"), ["a", "b"])


class TestOwnMarks(unittest.TestCase):

    def test_greatest_numbers(self):
        # All choosers but one have to have marks of their own, as they choose by one remainder.
        for many in range(1, 7):
            for modulus in (2, 6):
                chain = line_of((modulus,) * many, "h" * many)
                self.assertEqual(own_marks(chain, "a"), list("abcdef"[:many - 1]))
        circle = {c: ("h", 6, tuple("abcdef"[(k + i) % 6] for i in range(6))) for k, c in enumerate("abcdef")}
        for begin in "abcdef":
            self.assertEqual(len(own_marks(circle, begin)), len(least_own(circle, begin)))
            self.assertEqual(own_marks(circle, begin), least_own(circle, begin))

    def test_least_of_the_shortest(self):
        chain = line_of((2, 2, 3, 3), "hhii")
        self.assertEqual(own_marks(chain, "a"), ["a", "c"])
        self.assertEqual(own_marks(line_of((4, 3, 2), "hhh"), "a"), ["a"])
        self.assertEqual(own_marks(line_of((4, 3, 5), "hhh"), "a"), [])
        renamed = {"z": ("h", 2, ("y", "x")), "y": ("h", 2, ("x", "x"))}
        self.assertEqual(own_marks(renamed, "z"), ["y"])

    def test_more_ways_and_names_than_may_be_passed(self):
        # With marks of their own all choosers together have 7,776 ways and six names; the chain alone has six.
        chain = tree_of((6,) * 6, "h" * 6)
        chain["e"] = ("h", 6, ("f",) + ("x",) * 5)
        self.assertEqual(len(ways(chain, "a")), 6)
        self.assertEqual(own_marks(chain, "a"), ["e"])
        mixed = line_of((6, 5, 4, 6, 5, 4), "hijhij")
        self.assertEqual(own_marks(mixed, "a"), ["a", "b", "c"])
        self.assertRaises(TooMany, own_marks, tree_of((6, 6, 6, 6, 2, 3), "hijkhi"), "a")


class TestTooMany(unittest.TestCase):

    def test_more_than_a_thousand_ways(self):
        for function in TOLD.values():
            with self.assertRaises(TooMany):
                function(TOO_MANY, "a")
            with self.assertRaises(TooMany):
                function(tree_of((6, 6, 6, 6), "hijk"), "a")
        self.assertEqual(walk(TOO_MANY, "a", {name: 7 for name in "hijk"})[1], "z")

    def test_from_another_begin(self):
        self.assertEqual(len(ways(TOO_MANY, "b")), 180)

    def test_just_a_thousand(self):
        chain = thousand_ways()
        found = things_by_way(chain, "a")
        self.assertEqual(len(found), 1000)
        self.assertEqual(len(ways(chain, "a")), 1000)
        self.assertEqual(ends(chain, "a"), {"x": (1, 2), "y": (1, 2)})
        self.assertEqual([ring_share(chain, "a"), starved(chain, "a"), own_marks(chain, "a")], [(0, 1), {}, []])
        more = {**chain, "a": ("h", 6, ("b",) * 5 + ("x",))}
        self.assertEqual(len(things_by_way(more, "a")), 1001)
        for function in TOLD.values():
            with self.assertRaises(TooMany):
                function(more, "a")

    def test_ways_that_nothing_goes_do_not_count(self):
        chain = tree_of((6,) * 5, "hhhhi")
        self.assertEqual(len(ways(chain, "a")), 36)


if __name__ == "__main__":
    unittest.main()
