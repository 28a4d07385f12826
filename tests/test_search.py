"""Stage 9, points [21] to [24]: histories of plans, and the shortest ones with a wrong read."""

import copy
import random
import unittest
from fractions import Fraction
from math import lcm

from bymarks.deals import linear, plain
from bymarks.errors import InvalidHistory, InvalidMark, InvalidNumber
from bymarks.patterns import pattern_of
from bymarks.search import deeds, judge, place_patterns, play, verdict, verdicts, wrong_below, wrong_share
from tests.samples import nested, other_values, wrong_numbers
from tests.samples_deals import GREAT
from tests.samples_plans import (
    BOTH, NEW, OLD, TWO, WORDS, Store, plan_of, shortest_wrong, some_plan, some_plans, some_small_deals,
)
from tests.samples_rules import fraction

NOTHING = ("nothing",)


def run(plan, mark, history):
    """The deeds behind a history, what is told, and the first wrong read, by the words of the document."""
    store = Store(plan, mark)
    rows, wrong = [], None
    for k, deed in enumerate(history):
        told, kind = store.do(deed)
        rows.append((told, store.told()))
        if wrong is None and kind is not None:
            wrong = (k, kind)
    return store.allowed(), rows, wrong


def some_history(chance, plan, mark, many):
    """A history of so many deeds, made at random."""
    store = Store(plan, mark)
    history = []
    for _ in range(many):
        allowed = store.allowed()
        # Phases shall change now and then, but not at once.
        late = [deed for deed in allowed if deed[0] in ("leave", "next")]
        rest = [deed for deed in allowed if deed not in late]
        history.append(chance.choice(late if late and (chance.random() < 0.1 or not rest) else rest))
        store.do(history[-1])
    return history


class TestHistories(unittest.TestCase):

    def test_against_the_words(self):
        chance = random.Random(31)
        wrong, kinds = {}, {}
        for plan in some_plans(30, 400):
            mark = chance.choice([0, 1, chance.randrange(500), GREAT ** 10 - 1])
            history = some_history(chance, plan, mark, chance.choice([0, 1, 5, 30, 60]))
            given = copy.deepcopy(history)
            allowed, rows, first = run(plan, mark, history)
            with self.subTest(str((plan, mark, history))):
                self.assertEqual(deeds(plan, mark, history), allowed)
                self.assertEqual(play(plan, mark, history), rows)
                self.assertEqual(judge(plan, mark, history), first)
                self.assertEqual(history, given)
            wrong[first and first[1]] = True
            kinds.update({deed[0]: True for deed in history})
        self.assertEqual(set(wrong), {None, "stale", "ghost", "missed"})
        self.assertEqual(set(kinds), {"put", "take", "on", "read", "look", "move", "leave", "next"})

    def test_long(self):
        chance = random.Random(32)
        for plan in some_plans(33, 5):
            history = some_history(chance, plan, 5, 1000)
            self.assertEqual((deeds(plan, 5, history), play(plan, 5, history), judge(plan, 5, history)),
                             run(plan, 5, history))

    def assert_play(self, plan, history, rows, mark=5):
        self.assertEqual(play(plan, mark, history), rows)

    def test_same_places(self):
        # On the mark 3 both deals tell one place: the second step of the put writes there again.
        plan = plan_of([BOTH])
        self.assert_play(plan, [("put", 0), ("on",)], [(None, (("value", 1),) * 2)] * 2, 3)
        self.assert_play(plan, [("put", 0), ("on",)], [(None, (("value", 1), NOTHING)), (None, (("value", 1),) * 2)])
        # A take of this mark leaves nothing with its first step; of another one it leaves the second place.
        history = [("put", 0), ("on",), ("take", 0), ("on",)]
        self.assertEqual(play(plan, 3, history)[2:], [(None, (NOTHING,) * 2)] * 2)
        self.assertEqual(play(plan, 5, history)[2:], [(None, (NOTHING, ("value", 1))), (None, (NOTHING,) * 2)])
        # No move changes anything where its two places are one.
        for word in WORDS:
            plan = plan_of([((0,), (0,), (0,), ((word, 0, 1), (word, 1, 0)), "any")])
            self.assert_play(plan, [("put", 0), ("move", 0), ("move", 1)], [(None, (("value", 1),) * 2)] * 3, 3)

    def test_renew(self):
        # The elder version at the second place is renewed, the younger one is not.
        phases = [((0, 1), (0,), (), (("renew", 0, 1), ("renew", 1, 0)), "any")]
        one, two = ("value", 1), ("value", 2)
        history = [("put", 0), ("on",), ("put", 0), ("move", 1), ("move", 0)]
        self.assert_play(plan_of(phases), history, [
            (None, (one, NOTHING)), (None, (one, one)), (None, (two, one)), (None, (two, one)), (None, (two, two))])
        self.assert_play(plan_of(phases), [("put", 0), ("move", 1), ("move", 0)], [
            (None, (one, NOTHING)), (None, (one, NOTHING)), (None, (one, one))])

    def test_graves_are_versions(self):
        phases = [((0, 1), (0, 1), (), (("renew", 0, 1), ("drop", 1, 0)), "any")]
        one, grave = ("value", 1), ("grave", 2)
        history = [("put", 0), ("on",), ("take", 0), ("move", 1), ("move", 0), ("move", 1), ("on",), ("read", 0)]
        self.assert_play(plan_of(phases, True), history, [
            (None, (one, NOTHING)), (None, (one, one)), (None, (grave, one)), (None, (grave, one)),
            (None, (grave, grave)), (None, (grave, NOTHING)), (None, (grave, grave)), (("none",), (grave, grave))])

    def test_fill_and_drop(self):
        one, two = ("value", 1), ("value", 2)
        phases = [((0, 1), (0,), (1,), (("fill", 0, 1), ("drop", 0, 1)), "any")]
        history = [("move", 0), ("move", 1), ("put", 0), ("move", 0), ("on",), ("put", 0), ("move", 0), ("move", 1)]
        self.assert_play(plan_of(phases), history + [("on",), ("move", 1), ("move", 0)], [
            (None, (NOTHING, NOTHING)), (None, (NOTHING, NOTHING)), (None, (one, NOTHING)), (None, (one, one)),
            (None, (one, one)), (None, (two, one)), (None, (two, one)), (None, (two, one)), (None, (two, two)),
            (None, (NOTHING, two)), (None, (NOTHING, two))])

    def test_empty_take(self):
        # A take with an empty list is finished at once.
        plan = plan_of([((0,), (0,), (), (), "any")])
        history = [("put", 0), ("take", 0), ("read", 0)]
        one = (("value", 1), NOTHING)
        self.assert_play(plan, history, [(None, one), (None, one), (("value", 1), one)])
        self.assertEqual(judge(plan, 5, history), (2, "ghost"))
        self.assertEqual(deeds(plan, 5, history[:2]), [("put", 0), ("take", 0), ("read", 0)])

    def test_reads(self):
        plan = plan_of([((1,), (0, 1), (), (), "any")])
        both = (NOTHING, ("value", 1))
        self.assert_play(plan, [("read", 0), ("look",)], [(None, (NOTHING,) * 2), (("none",), (NOTHING,) * 2)])
        self.assert_play(plan, [("put", 0), ("read", 0), ("look",)], [(None, both), (None, both), (("value", 1), both)])
        # The read goes on by the list with which it began, and ends at its first place where something is.
        plan = plan_of([((0,), (0, 1), (), (), "any")])
        both = (("value", 1), NOTHING)
        self.assert_play(plan, [("put", 0), ("read", 0)], [(None, both), (("value", 1), both)])
        plan = plan_of([((0,), (1,), (), (), "any")])
        self.assert_play(plan, [("put", 0), ("read", 0)], [(None, both), (("none",), both)])

    def test_empty_history(self):
        for plan in some_plans(34, 20):
            self.assertEqual((play(plan, 0, []), judge(plan, 0, [])), ([], None))

    def test_order_of_deeds(self):
        plan = plan_of([BOTH[:1] + ((0, 1), (0, 1), BOTH[3] * 2, "any"), NEW], lag=True)
        moves = [("move", 0), ("move", 1)]
        self.assertEqual(deeds(plan, 5, []), [("put", 0), ("take", 0), ("read", 0)] + moves + [("next",)])
        history = [("put", 0), ("read", 0)]
        self.assertEqual(deeds(plan, 5, history), [("on",), ("read", 0)] + moves + [("next",)])
        self.assertEqual(deeds(plan, 5, history + [("next",)]), [("on",), ("read", 0), ("read", 1)])
        history = [("next",), ("put", 1)]
        self.assertEqual(deeds(plan, 5, history), [
            ("put", 0), ("put", 1), ("take", 0), ("take", 1), ("read", 0), ("read", 1), ("leave",)])
        self.assertEqual(deeds(plan, 5, history + [("leave",)]), [("put", 1), ("take", 1), ("read", 1)])
        plan = plan_of([((0,), (0, 1), (0,), (), "any")])
        self.assertEqual(deeds(plan, 5, [("read", 0)]), [("put", 0), ("take", 0), ("look",)])


class TestPhases(unittest.TestCase):

    def test_next_without_lag(self):
        plan = plan_of([BOTH[:1] + ((1, 0),) + BOTH[2:4] + ("any",), NEW])
        self.assertIn(("next",), deeds(plan, 5, []))
        self.assertNotIn(("next",), deeds(plan, 5, [("put", 0)]))
        self.assertIn(("next",), deeds(plan, 5, [("put", 0), ("on",)]))
        self.assertNotIn(("next",), deeds(plan, 5, [("read", 0)]))
        self.assertNotIn(("leave",), deeds(plan, 5, [("next",)]))
        self.assertEqual(deeds(plan, 5, [("next",)]), [("put", 1), ("take", 1), ("read", 1)])

    def test_leave_with_something_under_way(self):
        phase = ((0, 1), (1, 0), (0, 1), (), "any")
        plan = plan_of([phase, phase, phase], lag=True)
        for begin, further in ((("put", 0), ("on",)), (("take", 0), ("on",)), (("read", 0), ("look",))):
            for history in ([begin, ("next",)], [("next",), begin]):
                self.assertNotIn(("leave",), deeds(plan, 5, history))
                self.assertNotIn(("next",), deeds(plan, 5, history))
                self.assertIn(("leave",), deeds(plan, 5, history + [further]))
            later = [("next",), (begin[0], 1)]
            self.assertIn(("leave",), deeds(plan, 5, later))
            # What is under way goes on in the next phase, which may be mixed again.
            later = later + [("leave",), ("next",)]
            self.assertNotIn(("leave",), deeds(plan, 5, later))
            self.assertIn(("leave",), deeds(plan, 5, later + [further]))
            self.assertNotIn(("next",), deeds(plan, 5, later + [further, ("leave",)]))

    def test_lists_stay(self):
        # A write and a read that are under way go on by the lists with which they began.
        plan = plan_of([((0, 1), (1, 0), (), (), "any"), ((1,), (1,), (), (), "any")], lag=True)
        one = ("value", 1)
        history = [("read", 0), ("put", 0), ("next",), ("on",), ("look",)]
        self.assertEqual(play(plan, 5, history), [
            (None, (NOTHING,) * 2), (None, (one, NOTHING)), (None, (one, NOTHING)), (None, (one, one)), (one, (one, one))])

    def test_done(self):
        twice = ((0,), (0,), (0,), (("fill", 0, 1), ("fill", 0, 1)), "done")
        for lag in (False, True):
            plan = plan_of([twice, twice, OLD], lag=lag)
            for history in ([], [("move", 0)] * 2, [("move", 1)]):
                self.assertNotIn(("next",), deeds(plan, 5, history))
            begin = [("move", 1), ("move", 0), ("next",)]
            self.assertIn(("next",), deeds(plan, 5, begin[:2]))
            self.assertNotIn(("next",), deeds(plan, 5, begin))
            self.assertEqual(("next",) in deeds(plan, 5, begin + begin[:2]), not lag)
        # In the phase that was mixed, moves count only behind its end.
        begin = begin + [("move", 0), ("leave",)]
        self.assertNotIn(("next",), deeds(plan, 5, begin + [("move", 1)]))
        self.assertNotIn(("next",), deeds(plan, 5, begin + [("move", 0)]))
        self.assertIn(("next",), deeds(plan, 5, begin + [("move", 1), ("move", 0)]))

    def test_last_phase(self):
        for end in ("any", "done"):
            plan = plan_of([OLD[:4] + (end,)])
            self.assertEqual(deeds(plan, 5, []), [("put", 0), ("take", 0), ("read", 0)])


class TestErrors(unittest.TestCase):

    def test_invalid_mark(self):
        for function in (deeds, play, judge):
            for wrong in wrong_numbers():
                with self.assertRaises(InvalidMark):
                    function(plan_of([OLD]), wrong, None)

    def test_invalid_history(self):
        plan = plan_of([BOTH, NEW], lag=True)
        right = [("put", 0), ("on",), ("read", 0), ("move", 0), ("next",)]
        wrong = [value for value in other_values() if value != []]
        wrong += [tuple(right), {}, {("put", 0): 1}, [right], right + [None]]
        steps = [value for value in other_values()] + [
            ("put", 1), ("put", False), ("put", "0"), ("put",), ("put", 0, 0), ["put", 0], ("on",), ("on", 0), ("take", -1),
            ("take", 1), ("take", None), ("look",), ("look", 0), ("read", 1), ("read", False), ("read", (0,)), ("leave",),
            ("next",), ("move", 1), ("move", -1), ("move", False), ("move", True), ("Put", 0), "put", ("on", ()), (("on",),),
            ("move", nested(100)), ("fill", 0, 1), ("grave",),
        ]
        wrong += [[step] for step in steps] + [[("move", 0), step] for step in steps if step != ("next",)]
        wrong += [right[:1] + [step] for step in (("put", 0), ("take", 0), ("next",), ("look",))]
        wrong += [right + [("leave", 0)], right + [("leave",), ("put", 0)], right + [("next",)], right + [("leave",), ("next",)]]
        for function in (deeds, play, judge):
            for history in wrong:
                with self.subTest(str(history)[:200]), self.assertRaises(InvalidHistory):
                    function(plan, 5, history)
        self.assertEqual(len(play(plan, 5, right)), len(right))


class TestJudge(unittest.TestCase):

    def test_words(self):
        plan = plan_of([((0,), (0,), (), (), "any"), ((1,), (1,), (), (("fill", 0, 1),), "any"), OLD])
        self.assertIsNone(judge(plan, 5, [("read", 0), ("put", 0), ("read", 0)]))
        missed = [("put", 0), ("next",), ("read", 1)]
        self.assertEqual(judge(plan, 5, missed), (2, "missed"))
        stale = [("put", 0), ("next",), ("put", 1), ("next",), ("read", 2)]
        self.assertEqual(judge(plan, 5, stale), (4, "stale"))
        ghost = [("put", 0), ("take", 0), ("read", 0)]
        self.assertEqual(judge(plan, 5, ghost), (2, "ghost"))
        # The first wrong read is told, also if others come behind it.
        self.assertEqual(judge(plan, 5, ghost + [("next",), ("read", 1), ("put", 1), ("next",), ("read", 2)]), (2, "ghost"))
        self.assertEqual(judge(plan, 5, [("put", 0), ("read", 0)] + missed[1:]), (3, "missed"))
        self.assertEqual(judge(plan, 5, [("read", 0)] * 3 + missed), (5, "missed"))

    def test_write_nought(self):
        # That the thing was never put is right until a put is finished, not only until one begins.
        plan = plan_of([((0, 1), (1,), (), (), "any")])
        self.assertIsNone(judge(plan, 5, [("put", 0), ("read", 0)]))
        plan = plan_of([((0, 1), (1, 0), (), (), "any")])
        self.assertIsNone(judge(plan, 5, [("read", 0), ("put", 0), ("look",)]))
        plan = plan_of([((0,), (1,), (), (), "any")])
        self.assertEqual(judge(plan, 5, [("put", 0), ("read", 0)]), (1, "missed"))

    def test_take_under_way(self):
        # A take that began ahead of the read's end is fit, also if it is not finished.
        plan = plan_of([((0,), (0, 1), (0, 1), (), "any")])
        self.assertIsNone(judge(plan, 5, [("put", 0), ("take", 0), ("read", 0), ("look",)]))
        plan = plan_of([((0,), (1, 0), (0, 1), (), "any")])
        self.assertIsNone(judge(plan, 5, [("put", 0), ("read", 0), ("take", 0), ("look",)]))
        # A put that is finished behind the read's beginning leaves the take ahead of it fit.
        history = [("put", 0), ("take", 0), ("on",), ("read", 0), ("put", 0), ("put", 0), ("take", 0), ("look",)]
        self.assertIsNone(judge(plan, 5, history))


def marks_by_verdict(plan):
    """A common period, and the patterns of its marks, each with its marks and its shortest wrong history."""
    period = lcm(*[deal[0] for deal in plan[0]])
    found = {}
    for mark in range(period):
        found.setdefault(pattern_of(list(plan[0]), mark), []).append(mark)
    return period, {pattern: (marks, shortest_wrong(plan, marks[0])) for pattern, marks in found.items()}


class TestVerdicts(unittest.TestCase):

    def assert_verdicts(self, plan):
        period, found = marks_by_verdict(plan)
        rows = [(pattern, fraction(Fraction(len(marks), period)), marks[0], wrong)
                for pattern, (marks, wrong) in found.items()]
        self.assertEqual(verdicts(plan), sorted(rows, key=lambda row: row[2]))
        self.assertEqual(place_patterns(plan), [(row[0], row[2]) for row in verdicts(plan)])
        wrong = [(len(row[3][0]), row[2]) + row[3] for row in rows if row[3] is not None]
        best = min(wrong, key=lambda row: row[:2], default=None)
        self.assertEqual(verdict(plan), best and best[1:])
        marks = [mark for inner, told in found.values() if told is not None for mark in inner]
        self.assertEqual(wrong_share(plan), fraction(Fraction(len(marks), period)))
        for n in (0, 1, period // 2, period, 3 * period + 2):
            below = n // period * len(marks) + sum(mark < n % period for mark in marks)
            self.assertEqual(wrong_below(plan, n), below)
        return best

    def test_against_the_words(self):
        seen = {}
        for plan in some_plans(35, 200):
            with self.subTest(str(plan)):
                given = copy.deepcopy(plan)
                best = self.assert_verdicts(plan)
                self.assertEqual(plan, given)
                seen[len(plan[0]), best and best[3]] = True
        kinds = [(1, None), (1, "ghost")] + [(many, kind) for many in (2, 3) for kind in (None, "stale", "missed", "ghost")]
        self.assertEqual(set(seen), set(kinds))

    def test_each_mark(self):
        # Here all marks of a period are looked at, also those that have the pattern of another one.
        for plan in some_plans(36, 25):
            told = [(pattern, wrong) for pattern, _, _, wrong in verdicts(plan)]
            for mark in range(lcm(*[deal[0] for deal in plan[0]])):
                self.assertIn((pattern_of(list(plan[0]), mark), shortest_wrong(plan, mark)), told)

    def test_all_histories(self):
        # Nothing is left out here: each history up to some deeds is judged by the words of the document.
        chance = random.Random(37)
        for _ in range(25):
            plan = some_plan(chance, some_small_deals(chance, 2), 2)
            for pattern, _, mark, wrong in verdicts(plan):
                first = None
                level = [(Store(plan, mark), [])]
                while first is None and len(level[0][1]) < 5:
                    following = []
                    for store, history in level:
                        for deed in store.allowed():
                            further = store.copy()
                            kind = further.do(deed)[1]
                            if kind is not None and first is None:
                                first = (history + [deed], kind)
                            following.append((further, history + [deed]))
                    level = following
                self.assertEqual(first, wrong if wrong and len(wrong[0]) <= 5 else None)

    def test_histories_that_are_told(self):
        longest = 0
        for plan in some_plans(38, 300):
            for _, _, mark, wrong in verdicts(plan):
                if wrong is not None:
                    history, kind = wrong
                    self.assertEqual(judge(plan, mark, history), (len(history) - 1, kind))
                    longest = max(longest, len(history))
        self.assertGreater(longest, 9)

    def test_least_mark(self):
        # The shortest history counts ahead of the least mark.
        deals = (plain(4), plain(6))
        plan = plan_of([((0,), (0,), (1,), (), "any")], deals=deals)
        self.assertEqual(verdict(plan), (4, [("put", 0), ("take", 0), ("read", 0)], "ghost"))
        self.assertEqual([row[2] for row in verdicts(plan)], [0, 4])
        plan = plan_of([((0, 1), (0, 1), (0,), (), "any")], deals=deals)
        rows = verdicts(plan)
        self.assertEqual([row[3] and len(row[3][0]) for row in rows], [None, 5])
        # Marks of two patterns go wrong alike: the least of them is told.
        plan = plan_of([((0,), (0,), (), (), "any")], deals=deals)
        self.assertEqual(verdict(plan), (0, [("put", 0), ("take", 0), ("read", 0)], "ghost"))

    def test_order_of_histories(self):
        # Both numbers of a mixed phase go wrong alike: the list of the phase ahead stands earlier.
        plan = plan_of([((0,), (1,), (), (), "any"), ((0,), (1,), (), (), "any")], lag=True)
        self.assertEqual(verdict(plan), (4, [("put", 0), ("read", 0)], "missed"))
        plan = plan_of([((0,), (0,), (0,), (), "any"), ((1,), (1,), (1,), (), "any")], lag=True)
        self.assertEqual(verdict(plan), (4, [("put", 0), ("next",), ("read", 1)], "missed"))

    def test_great_periods(self):
        deals = (plain(GREAT), plain(GREAT - 1))
        plan = ((deals[0], deals[1]), (OLD, NEW), False, False)
        self.assertEqual(verdict(plan), (GREAT - 1, [("put", 0), ("next",), ("read", 1)], "missed"))
        # Both deals agree on the first GREAT - 1 marks of each common period.
        period = GREAT * (GREAT - 1)
        self.assertEqual(wrong_share(plan), fraction(1 - Fraction(GREAT - 1, period)))
        for n in (5, GREAT + 5, period + 5, 10 ** 300):
            right = n // period * (GREAT - 1) + min(n % period, GREAT - 1)
            self.assertEqual(wrong_below(plan, n), n - right)
        right = (deals, (OLD, BOTH, NEW), False, False)
        self.assertEqual((verdict(right), wrong_share(right), wrong_below(right, GREAT ** 9)), (None, (0, 1), 0))

    def test_same_patterns(self):
        # Plans with the same phases whose deals have the same patterns are right or wrong together.
        chance = random.Random(39)
        pairs = [((plain(4), plain(6)), (plain(GREAT), linear(7, 12))), ((plain(3), plain(5)), (linear(2, 3), plain(2)))]
        pairs += [((plain(4), plain(6), plain(9)), (plain(8), plain(12), plain(18)))]
        for one, other in pairs:
            first, second = plan_of([OLD], deals=one), plan_of([OLD], deals=other)
            self.assertEqual(sorted(row[0] for row in place_patterns(first)),
                             sorted(row[0] for row in place_patterns(second)))
            for _ in range(60):
                plan = some_plan(chance, one)
                further = (other,) + plan[1:]
                told = [{pattern: wrong for pattern, _, _, wrong in verdicts(part)} for part in (plan, further)]
                self.assertEqual(told[0], told[1])
                self.assertEqual(verdict(plan) is None, verdict(further) is None)

    def test_phases_in_a_row(self):
        many = 0
        for plan in some_plans(40, 400):
            if verdict(plan) is None:
                for begin in range(len(plan[1])):
                    for end in range(begin + 1, len(plan[1]) + 1):
                        self.assertIsNone(verdict((plan[0], plan[1][begin:end]) + plan[2:]))
                        many += 1
        self.assertGreater(many, 80)

    def test_right_plans_with_lag(self):
        # For each mark, the first of the places of a phase's looks that is one of the places of its puts is
        # one of the places of the puts of the phases beside it, too.
        many = 0
        for plan in some_plans(41, 900, (2, 2, 3)):
            deals, phases, _, lag = plan
            if not lag or len(phases) == 1 or verdict(plan) is not None:
                continue
            many += 1
            for pattern, _ in place_patterns(plan):
                groups = {number: k for k, group in enumerate(pattern) for number in group}
                puts = [[groups[number] for number in phase[0]] for phase in phases]
                for k, phase in enumerate(phases):
                    first = [groups[number] for number in phase[1] if groups[number] in puts[k]][0]
                    self.assertTrue(all(first in beside for beside in puts[max(0, k - 1):k + 2]))
        self.assertGreater(many, 20)

    def test_three_phases_with_lag(self):
        # No plan of three phases leads with lag from one deal alone to another one, where these part.
        chance = random.Random(42)
        for _ in range(300):
            middle = some_plan(chance, TWO, 1)
            graves = middle[2]
            plan = plan_of([OLD, middle[1][0], NEW], graves, True)
            self.assertIsNotNone(verdict(plan))

    def test_invalid_number(self):
        for wrong in wrong_numbers():
            with self.assertRaises(InvalidNumber):
                wrong_below(plan_of([OLD]), wrong)


if __name__ == "__main__":
    unittest.main()
