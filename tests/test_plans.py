"""Stage 9, point [20]: which values are plans."""

import itertools
import unittest

from bymarks.deals import linear, plain
from bymarks.errors import InvalidPlan
from bymarks.needless import needless, weakest, without
from bymarks.plans import check_plan
from bymarks.search import deeds, judge, place_patterns, play, verdict, verdicts, wrong_below, wrong_share
from tests.samples_deals import deal_of_pieces
from tests.samples_plans import BOTH, NEW, OLD, TWO, plan_of, some_plans, wrong_plans

# Of the other arguments none is right, too, so that the order of the errors shows.
TAKING = {
    "check_plan": check_plan, "place_patterns": place_patterns, "verdict": verdict, "verdicts": verdicts,
    "wrong_share": wrong_share, "needless": needless, "weakest": weakest,
    "wrong_below": lambda plan: wrong_below(plan, -1), "without": lambda plan: without(plan, None),
    "deeds": lambda plan: deeds(plan, None, None), "play": lambda plan: play(plan, -1, ()),
    "judge": lambda plan: judge(plan, True, [None]),
}
THREE = TWO + (plain(9),)


def phases_of_three():
    """Phases of plans with three deals."""
    return [((0, 2), (2, 1), (0, 1, 2), (("drop", 2, 0), ("drop", 2, 0)), "done"), ((2,), (1, 2), (1,), (), "any")]


class TestRight(unittest.TestCase):

    def assert_right(self, plan):
        self.assertIsNone(check_plan(plan), plan)

    def test_numbers_of_deals_and_phases(self):
        for graves, lag in itertools.product([False, True], repeat=2):
            for many in range(1, 5):
                self.assert_right(plan_of([OLD] * many, graves, lag, TWO[:1]))
                self.assert_right(plan_of([OLD, BOTH, BOTH, NEW][:many], graves, lag))
            for phases in (phases_of_three(), phases_of_three()[:1], phases_of_three()[1:]):
                self.assert_right(plan_of(phases, graves, lag, THREE))

    def test_lists_of_phases(self):
        pairs = [(0,), (1,), (0, 1), (1, 0)]
        for puts, looks, clears in itertools.product(pairs, pairs, pairs + [()]):
            for end in ("any", "done"):
                self.assert_right(plan_of([(puts, looks, clears, (), end)]))
        for clears in itertools.permutations(range(3)):
            self.assert_right(plan_of([((2, 1), (1, 2), clears, (), "any")], deals=THREE))

    def test_moves(self):
        moves = [(word, i, j) for word in ("fill", "renew", "drop") for i, j in ((0, 1), (1, 0))]
        for two in itertools.product(moves, repeat=2):
            self.assert_right(plan_of([BOTH[:3] + (two, "any")]))
            self.assert_right(plan_of([BOTH[:3] + (two[:1], "done")]))

    def test_pieces(self):
        self.assert_right(plan_of([OLD], deals=(deal_of_pieces(4),) * 3))
        self.assert_right(plan_of([OLD], deals=(deal_of_pieces(6), deal_of_pieces(6))))
        self.assert_right(plan_of([OLD], deals=(linear(4, 6), deal_of_pieces(6), deal_of_pieces(5))))

    def test_some_plans(self):
        for plan in some_plans(1, 200):
            self.assert_right(plan)


class TestWrong(unittest.TestCase):

    def test_check_plan(self):
        self.assertGreater(len(wrong_plans()), 500)
        for wrong in wrong_plans():
            with self.subTest(str(wrong)[:200]), self.assertRaises(InvalidPlan):
                check_plan(wrong)

    def test_ahead_of_the_other_errors(self):
        for name, function in TAKING.items():
            for wrong in wrong_plans()[::7]:
                with self.subTest(f"{name} {str(wrong)[:200]}"), self.assertRaises(InvalidPlan):
                    function(wrong)


if __name__ == "__main__":
    unittest.main()
