"""Stage 10, point [25]: what can be left out of plans, and where they can be loosened."""

import copy
import unittest

from bymarks.deals import plain
from bymarks.errors import InvalidItem, NotRight, TooMany
from bymarks.needless import needless, weakest, without
from bymarks.plans import check_plan
from bymarks.search import verdict
from tests.samples import nested, other_values
from tests.samples_plans import BOTH, NEW, OLD, plan_of, some_plans

PLACES = {"put": 0, "look": 1, "clear": 2, "move": 3}
TWICE = (("renew", 0, 1), ("renew", 0, 1))
FULL = ((0, 1), (1, 0), (0, 1), (("fill", 0, 1), ("drop", 0, 1)), "done")


def changed(plan, n, at, part):
    """The plan with another part of its phase number n."""
    phases = [list(phase) for phase in plan[1]]
    phases[n][at] = part
    return (plan[0], tuple(tuple(phase) for phase in phases)) + plan[2:]


def by_words(plan, item):
    """The plan without an item, or None if there is no such item, or its list must not be empty."""
    word, n, i = item
    part = list(plan[1][n][PLACES[word]])
    del part[i]
    return changed(plan, n, PLACES[word], tuple(part)) if part or word in ("clear", "move") else None


def items_by_words(plan):
    """All items without which there is a plan, in their order."""
    return [
        (word, n, i) for n, phase in enumerate(plan[1]) for word in PLACES for i in range(len(phase[PLACES[word]]))
        if by_words(plan, (word, n, i)) is not None
    ]


class TestWithout(unittest.TestCase):

    def test_each_kind(self):
        plan = plan_of([OLD, FULL], lag=True)
        for item, part in {
            ("put", 1, 0): (1,), ("put", 1, 1): (0,), ("look", 1, 0): (0,), ("look", 1, 1): (1,), ("clear", 0, 0): (),
            ("clear", 1, 0): (1,), ("clear", 1, 1): (0,), ("move", 1, 0): (("drop", 0, 1),),
            ("move", 1, 1): (("fill", 0, 1),),
        }.items():
            self.assertEqual(without(plan, item), changed(plan, item[1], PLACES[item[0]], part))

    def test_some_plans(self):
        for plan in some_plans(51, 100):
            for word, place in PLACES.items():
                for n, phase in enumerate(plan[1]):
                    for i in range(len(phase[place])):
                        rest = by_words(plan, (word, n, i))
                        if rest is None:
                            with self.assertRaises(InvalidItem):
                                without(plan, (word, n, i))
                        else:
                            self.assertEqual(without(plan, (word, n, i)), rest)
                            self.assertIsNone(check_plan(rest))

    def test_invalid_item(self):
        plan = plan_of([OLD, FULL])
        wrong = other_values() + [
            ("put", 0, 0), ("look", 0, 0), ("put", 0, 1), ("look", 0, -1), ("clear", 0, 1), ("move", 0, 0), ("move", 1, 2),
            ("clear", 1, 2), ("put", 1, 2), ("put", 2, 0), ("put", -1, 0), ("put", 1, -1), ("move", 1, -1),
            ("put", True, 0), ("put", 1, False), ("put", 1, True), ("put", 1, None), ("put", None, 0), ("put", "1", 0),
            ("put", 1, "0"), ("put", 1, (0,)), ("put", 1), ("put", 1, 0, 0), ["put", 1, 0], ("puts", 1, 0), ("end", 1, 0),
            ("Put", 1, 0), (0, 1, 0), (None, 1, 0), (("put",), 1, 0), ("fill", 1, 0), ("put", 1, 10 ** 300), ("", 1, 0),
            ("put", 10 ** 300, 0), ([], 1, 0), ({}, 1, 0), ("put", [], 0), ("put", 1, {}), ("move", 1, nested(100)),
        ]
        for item in wrong:
            with self.subTest(str(item)[:200]), self.assertRaises(InvalidItem):
                without(plan, item)


class TestNeedless(unittest.TestCase):

    def test_against_verdict(self):
        seen, told = 0, {}
        for plan in [plan_of([OLD, BOTH, NEW])] + some_plans(52, 1500):
            items = items_by_words(plan)
            if len(items) > 8 or verdict(plan) is not None:
                continue
            seen += 1
            with self.subTest(str(plan)):
                given = copy.deepcopy(plan)
                expected = [item for item in items if verdict(by_words(plan, item)) is None]
                self.assertEqual(needless(plan), expected)
                done = [n for n, phase in enumerate(plan[1]) if phase[4] == "done"]
                loose = [n for n in done if verdict(changed(plan, n, 4, "any")) is None]
                self.assertEqual(weakest(plan), loose)
                self.assertEqual(plan, given)
                told.update({word: True for word, _, _ in expected})
                told[len(loose) < len(done)] = True
        self.assertGreater(seen, 100)
        self.assertEqual(set(told), {"put", "look", "clear", "move", False, True})

    def test_order(self):
        plan = plan_of([((0, 1), (0, 1), (0, 1), (("fill", 0, 1), ("renew", 0, 1)), "any")], deals=(plain(4), plain(4)))
        self.assertEqual(needless(plan), [
            ("put", 0, 0), ("put", 0, 1), ("look", 0, 0), ("look", 0, 1), ("clear", 0, 0), ("clear", 0, 1), ("move", 0, 0),
            ("move", 0, 1)])
        self.assertEqual(needless(plan_of([OLD])), [])

    def test_weakest(self):
        plan = plan_of([OLD, BOTH, NEW])
        self.assertEqual((needless(plan), weakest(plan)), ([], []))
        loose = plan_of([OLD[:4] + ("done",), BOTH[:3] + (TWICE, "done"), NEW[:4] + ("done",)])
        self.assertEqual(weakest(loose), [0, 2])
        self.assertEqual(needless(loose), [("move", 1, 0), ("move", 1, 1)])
        self.assertEqual(weakest(plan_of([OLD])), [])

    def test_too_many(self):
        # FULL alone has eight items; a phase ahead of it has one more.
        alone = plan_of([FULL], deals=(plain(4), plain(4)))
        right = plan_of([FULL, OLD], deals=(plain(4), plain(4)))
        wrong = plan_of([FULL, NEW[:2] + ((), (), "any")])
        for function in (needless, weakest):
            self.assertIs(type(function(alone)), list)
            with self.assertRaises(TooMany):
                function(right)
            with self.assertRaises(NotRight):
                function(wrong)
            with self.assertRaises(TooMany):
                function(plan_of([FULL, NEW]))

    def test_not_right(self):
        for plan in some_plans(53, 200):
            if len(items_by_words(plan)) > 8 or verdict(plan) is None:
                continue
            for function in (needless, weakest):
                with self.assertRaises(NotRight):
                    function(plan)


if __name__ == "__main__":
    unittest.main()
