"""Stage 14, points [32] and [33]: a watch over things."""

import copy
import random
import unittest

from bymarks.deals import linear, plain
from bymarks.desk import Watch, try_all
from bymarks.errors import (
    CannotBe, InvalidDeal, InvalidName, InvalidPlace, KnownThing, MarkError, NothingToUndo, SameThing, TooMany, UnknownDeed,
    UnknownThing,
)
from bymarks.seen import known, told
from tests.samples import nested, other_values, wrong_numbers
from tests.samples_deals import GREAT, PLAIN, wrong_deals
from tests.samples_rules import right_names, wrong_names
from tests.samples_seen import many_left

EIGHT = list("abcdefgh")
FEW = [plain(2), plain(3), plain(4), linear(2, 3), plain(6), (12, ((0, 0), (5, -5)))]


def watch_of(**things):
    """A watch over these things, with their sightings."""
    watch = Watch()
    for thing, sightings in things.items():
        watch.enter(thing)
        for deal, place in sightings:
            watch.see(thing, deal, place)
    return watch


def shown(watch):
    """All that a watch tells of its things."""
    return [(thing, watch[thing], watch.remainders(thing)) for thing in watch.things()]


def all_shown(watch):
    """All that a watch tells, now and behind each undo; nothing can be taken back of it any more."""
    found = [shown(watch)]
    while True:
        try:
            watch.undo()
        except NothingToUndo:
            return found
        found.append(shown(watch))


class Model:
    """What a watch is, by the words of the document: things in their order, and all of this behind each deed."""

    def __init__(self):
        self.things = {}
        self.past = []

    def keep(self):
        self.past.append(copy.deepcopy(self.things))

    def refuse(self, sightings):
        """The error for a list of sightings that a thing would have, or None."""
        if len(sightings) > 20:
            return TooMany
        try:
            return None if known(sightings)[1] else CannotBe
        except TooMany:
            return TooMany

    def enter(self, thing):
        if thing in self.things:
            return KnownThing
        if len(self.things) == 8:
            return TooMany
        self.keep()
        self.things[thing] = []

    def see(self, thing, deal, place):
        if thing not in self.things:
            return UnknownThing
        error = self.refuse(self.things[thing] + [(deal, place)])
        if error is None:
            self.keep()
            self.things[thing].append((deal, place))
        return error

    def merge(self, one, other):
        if one not in self.things or other not in self.things:
            return UnknownThing
        if one == other:
            return SameThing
        error = self.refuse(self.things[one] + self.things[other])
        if error is None:
            self.keep()
            self.things[one] += self.things.pop(other)
        return error

    def undo(self):
        if not self.past:
            return NothingToUndo
        self.things = copy.deepcopy(self.past.pop())

    def do(self, entry):
        """Do what an entry tells; the error that refuses it, or None."""
        if entry[0] == "block":
            self.do_all(entry[1])
            return None
        if entry[0] not in ("enter", "see", "merge", "undo"):
            return UnknownDeed
        return getattr(self, entry[0])(*entry[1:])

    def do_all(self, entries):
        """Do a block; the error that refuses it, or None."""
        things, past = copy.deepcopy(self.things), list(self.past)
        for entry in entries:
            error = self.do(entry)
            if error is not None:
                self.things, self.past = things, past
                return error


def some_entry(chance, depth=2):
    """An entry made at random, that may be refused."""
    kind = chance.choice(["enter", "see", "see", "see", "merge", "undo", "block", "block"] if depth else ["enter", "see"] * 4)
    names = "abcdefghij"
    if kind == "enter":
        return (kind, chance.choice(names))
    if kind == "see":
        return (kind, chance.choice(names), chance.choice(FEW), chance.choice([0, 0, 0, 1, 2]))
    if kind == "merge":
        return (kind, chance.choice(names), chance.choice(names))
    if kind == "undo":
        return (kind,)
    more = [some_entry(chance, depth - 1) for _ in range(chance.randint(0, 4))]
    return (kind, more + ([("undone",)] if chance.random() < 0.1 else []))


class TestWatch(unittest.TestCase):

    def assert_refused(self, watch, error, deed, *arguments):
        before, last = shown(watch), copy.deepcopy(watch)
        with self.assertRaises(error):
            getattr(watch, deed)(*arguments)
        self.assertEqual(shown(watch), before)
        # Nothing more and nothing less can be taken back either.
        self.assertEqual(all_shown(copy.deepcopy(watch)), all_shown(last))

    def test_at_first(self):
        watch = Watch()
        self.assertEqual((watch.things(), watch.unlike(), len(watch)), ([], [], 0))
        self.assertFalse("a" in watch)
        with self.assertRaises(NothingToUndo):
            watch.undo()

    def test_deeds(self):
        watch = Watch()
        self.assertIsNone(watch.enter("b"))
        self.assertIsNone(watch.enter("a"))
        self.assertEqual((watch["a"], watch.remainders("a")), ([], (1, (0,))))
        self.assertIsNone(watch.see("a", plain(4), 3))
        self.assertIsNone(watch.see("a", plain(6), 1))
        self.assertEqual(watch["a"], [(plain(4), 3), (plain(6), 1)])
        self.assertEqual(watch.remainders("a"), (12, (7,)))
        self.assertEqual(watch.where("a", plain(3)), ("sure", 1))
        self.assertEqual(watch.where("a", plain(5)), ("unsure", 7, 19))
        self.assertEqual(watch.where("b", plain(5)), ("unsure", 0, 1))
        self.assertEqual((watch.things(), len(watch)), (["b", "a"], 2))
        watch.see("b", plain(9), 4)
        self.assertIsNone(watch.merge("b", "a"))
        self.assertEqual((watch.things(), len(watch), "a" in watch), (["b"], 1, False))
        self.assertEqual(watch["b"], [(plain(9), 4), (plain(4), 3), (plain(6), 1)])
        watch.enter("a")
        self.assertEqual(watch.things(), ["b", "a"])
        # A sighting that tells nothing new, or the same one again, is one, too.
        watch.see("a", plain(1), 0)
        watch.see("a", plain(1), 0)
        self.assertEqual(watch["a"], [(plain(1), 0)] * 2)

    def test_order_of_things(self):
        watch = watch_of(c=[], a=[], d=[], b=[])
        watch.see("a", PLAIN, 1)
        watch.merge("d", "c")
        self.assertEqual(watch.things(), ["a", "d", "b"])
        watch.undo()
        self.assertEqual(watch.things(), ["c", "a", "d", "b"])

    def test_in(self):
        watch = watch_of(a=[])
        self.assertIs("a" in watch, True)
        for value in other_values() + wrong_names() + ["b", ("a",), ["a"]]:
            self.assertIs(value in watch, False)

    def test_shared_and_unlike(self):
        watch = watch_of(a=[(plain(4), 1)], b=[(linear(4, 6), 5)], c=[(plain(6), 2)], d=[], e=[(plain(10), 7), (plain(3), 2)])
        marks = range(480)
        left = {thing: [h for h in marks if h % watch.remainders(thing)[0] in watch.remainders(thing)[1]] for thing in "abcde"}
        for one in "abcde":
            for other in "abcde":
                both = sorted(set(left[one]) & set(left[other]))
                self.assertEqual(watch.shared(one, other), both[0] if both else None)
        pairs = [(one, other) for one in "abcde" for other in "abcde" if one < other and not set(left[one]) & set(left[other])]
        self.assertEqual(watch.unlike(), pairs)
        self.assertIn(("a", "c"), pairs)
        turned = watch_of(z=[(plain(4), 1)], b=[(plain(4), 2)], y=[(plain(4), 1)])
        self.assertEqual(turned.unlike(), [("b", "y"), ("b", "z")])

    def test_shared_with_great_periods(self):
        mark = 7 ** 100
        one = [(plain(GREAT - k), mark % (GREAT - k)) for k in (0, 1, 3)]
        other = [(plain(GREAT - k), mark % (GREAT - k)) for k in (0, 7, 9)]
        watch = watch_of(a=one, b=other, c=[(plain(GREAT), (mark + 1) % GREAT)], d=[(plain(7), 0)])
        found = watch.shared("a", "b")
        self.assertTrue(all(found % deal[0] == place for deal, place in one + other))
        self.assertLessEqual(found, mark)
        self.assertEqual(watch.unlike(), [("a", "c"), ("b", "c")])
        self.assertEqual(watch.shared("a", "a"), watch.remainders("a")[1][0])

    def test_eight(self):
        watch = watch_of(**{name: [] for name in EIGHT})
        self.assert_refused(watch, TooMany, "enter", "i")
        self.assert_refused(watch, KnownThing, "enter", "h")
        self.assert_refused(watch, InvalidName, "enter", "I")
        watch.merge("a", "b")
        watch.enter("i")
        self.assertEqual(watch.things(), list("acdefghi"))

    def test_twenty(self):
        watch = watch_of(a=[(plain(2), 1)] * 20, b=[(plain(3), 1)] * 7, c=[(plain(5), 1)] * 13, d=[(plain(7), 1)])
        self.assert_refused(watch, TooMany, "see", "a", plain(2), 1)
        # That there are too many comes ahead of what cannot be.
        self.assert_refused(watch, TooMany, "see", "a", plain(2), 0)
        self.assert_refused(watch, TooMany, "merge", "a", "d")
        self.assert_refused(watch, TooMany, "merge", "d", "a")
        watch.merge("b", "c")
        self.assertEqual(watch["b"], [(plain(3), 1)] * 7 + [(plain(5), 1)] * 13)
        self.assertEqual(watch.remainders("b"), (15, (1,)))
        self.assert_refused(watch, TooMany, "merge", "b", "d")

    def test_enter_refused(self):
        watch = watch_of(a=[(PLAIN, 1)])
        for wrong in wrong_names():
            self.assert_refused(watch, InvalidName, "enter", wrong)
        self.assert_refused(watch, KnownThing, "enter", "a")
        for name in right_names():
            if name != "a":
                Watch().enter(name)

    def test_see_refused(self):
        watch = watch_of(a=[(PLAIN, 1)])
        for wrong in wrong_names() + other_values() + ["b"]:
            self.assert_refused(watch, UnknownThing, "see", wrong, None, None)
        for wrong in wrong_deals()[::3]:
            self.assert_refused(watch, InvalidDeal, "see", "a", wrong, None)
        for wrong in wrong_numbers():
            self.assert_refused(watch, InvalidPlace, "see", "a", PLAIN, wrong)
            self.assert_refused(watch_of(a=[(PLAIN, 1)] * 20), InvalidPlace, "see", "a", PLAIN, wrong)
        for place in (0, 2, 4, 10 ** 300):
            self.assert_refused(watch, CannotBe, "see", "a", PLAIN, place)
        watch = watch_of(a=many_left(2))
        self.assert_refused(watch, TooMany, "see", "a", *many_left(3)[2])

    def test_merge_refused(self):
        watch = watch_of(a=[(PLAIN, 1)], b=[(plain(6), 2)], c=[(plain(5), 1)])
        for wrong in wrong_names() + other_values() + ["d"]:
            self.assert_refused(watch, UnknownThing, "merge", wrong, wrong)
            self.assert_refused(watch, UnknownThing, "merge", "a", wrong)
            self.assert_refused(watch, UnknownThing, "merge", wrong, "a")
        self.assert_refused(watch, SameThing, "merge", "a", "a")
        self.assert_refused(watch_of(a=[(PLAIN, 1)] * 20), SameThing, "merge", "a", "a")
        self.assert_refused(watch, CannotBe, "merge", "a", "b")
        self.assert_refused(watch, CannotBe, "merge", "b", "a")
        # Behind the first one of the other's sightings are too many remainders, also if the next one leaves none.
        for last in ([], [(plain(60 * 77 * 221), 3)]):
            watch = watch_of(a=many_left(2), b=many_left(3)[2:] + last)
            self.assert_refused(watch, TooMany, "merge", "a", "b")
        # The other way round there are not: by then few are left.
        watch = watch_of(a=[(plain(60 * 77 * 221), 3)], b=many_left(2))
        watch.merge("a", "b")
        watch = watch_of(a=many_left(2), b=[(plain(60), 4)] + many_left(3)[2:])
        self.assert_refused(watch, CannotBe, "merge", "a", "b")

    def test_questions_refused(self):
        watch = watch_of(a=[(PLAIN, 1)])
        for wrong in wrong_names() + other_values() + ["b"]:
            with self.assertRaises(UnknownThing):
                watch[wrong]
            self.assert_refused(watch, UnknownThing, "remainders", wrong)
            self.assert_refused(watch, UnknownThing, "where", wrong, None)
            self.assert_refused(watch, UnknownThing, "shared", wrong, "a")
            self.assert_refused(watch, UnknownThing, "shared", "a", wrong)
        for wrong in wrong_deals()[::3]:
            self.assert_refused(watch, InvalidDeal, "where", "a", wrong)
        with self.assertRaises(TypeError):
            list(watch)

    def test_answers_are_new(self):
        watch = watch_of(a=[(PLAIN, 1)], b=[(PLAIN, 2)])
        before = shown(watch)
        for _ in range(2):
            watch["a"].append(None)
            watch.things().clear()
            watch.unlike().append(None)
        self.assertEqual(shown(watch), before)
        self.assertEqual(watch.unlike(), [("a", "b")])

    def test_two_watches(self):
        one, other = watch_of(a=[(PLAIN, 1)]), Watch()
        self.assertEqual((len(one), len(other)), (1, 0))
        other.enter("a")
        self.assertEqual((one["a"], other["a"]), ([(PLAIN, 1)], []))


class TestUndo(unittest.TestCase):

    def test_each_deed(self):
        watch = Watch()
        states = [shown(watch)]
        deeds = [("enter", "a"), ("see", "a", PLAIN, 1), ("enter", "b"), ("see", "b", plain(6), 1), ("merge", "b", "a")]
        for deed in deeds:
            getattr(watch, deed[0])(*deed[1:])
            states.append(shown(watch))
        for state in states[-2::-1]:
            self.assertIsNone(watch.undo())
            self.assertEqual(shown(watch), state)
        for _ in range(2):
            with self.assertRaises(NothingToUndo):
                watch.undo()

    def test_after_undo(self):
        watch = watch_of(a=[(PLAIN, 1), (plain(6), 3)])
        watch.undo()
        watch.see("a", plain(6), 1)
        self.assertEqual(watch["a"], [(PLAIN, 1), (plain(6), 1)])
        watch.undo()
        watch.undo()
        self.assertEqual(watch["a"], [])

    def test_in_a_block(self):
        watch = watch_of(a=[(PLAIN, 1)])
        with watch.trial() as same:
            self.assertIs(same, watch)
            same.enter("b")
            same.undo()
            # Deeds from ahead of the block are taken back, too.
            same.undo()
            same.enter("c")
        self.assertEqual((watch.things(), watch["a"]), (["a", "c"], []))
        # Behind the block its deeds can be taken back one by one.
        self.assertEqual([[thing for thing, _, _ in state] for state in all_shown(watch)], [["a", "c"], ["a"], []])

    def test_errors_leave_blocks(self):
        for error in (MarkError, TooMany, ValueError, KeyError, ZeroDivisionError, KeyboardInterrupt, GeneratorExit):
            watch = watch_of(a=[(PLAIN, 1)], b=[])
            before = all_shown(copy.deepcopy(watch))
            with self.assertRaises(error):
                with watch.trial() as same:
                    same.undo()
                    same.undo()
                    same.enter("c")
                    same.see("c", PLAIN, 2)
                    same.undo()
                    raise error()
            self.assertEqual(all_shown(watch), before)

    def test_refused_deeds_in_a_block(self):
        watch = watch_of(a=[(PLAIN, 1)])
        with self.assertRaises(CannotBe):
            with watch.trial():
                watch.enter("b")
                watch.see("a", PLAIN, 2)
        self.assertEqual(watch.things(), ["a"])
        # An error that does not leave the block changes nothing.
        with watch.trial():
            watch.enter("b")
            with self.assertRaises(CannotBe):
                watch.see("a", PLAIN, 2)
        self.assertEqual(watch.things(), ["a", "b"])

    def test_blocks_in_blocks(self):
        watch = watch_of(a=[(PLAIN, 1)])
        before = all_shown(copy.deepcopy(watch))
        with watch.trial():
            watch.enter("b")
            with self.assertRaises(KeyError):
                with watch.trial():
                    watch.undo()
                    watch.undo()
                    watch.enter("c")
                    raise KeyError
            self.assertEqual(watch.things(), ["a", "b"])
            watch.enter("d")
        self.assertEqual(watch.things(), ["a", "b", "d"])
        self.assertEqual(all_shown(copy.deepcopy(watch))[2:], before)
        with self.assertRaises(KeyError):
            with watch.trial():
                with watch.trial():
                    watch.undo()
                    watch.undo()
                watch.undo()
                self.assertEqual(watch["a"], [])
                raise KeyError
        self.assertEqual(watch.things(), ["a", "b", "d"])
        self.assertEqual(all_shown(watch)[2:], before)

    def test_return_out_of_a_block(self):
        def entered(watch):
            with watch.trial() as same:
                same.enter("b")
                return same

        self.assertEqual(entered(watch_of(a=[])).things(), ["a", "b"])


class TestTryAll(unittest.TestCase):

    def test_each_form(self):
        watch = Watch()
        deeds = [("enter", "a"), ("see", "a", PLAIN, 1), ("enter", "b"), ("see", "b", plain(6), 1), ("undo",), ("merge", "a", "b")]
        given = copy.deepcopy(deeds)
        self.assertIsNone(try_all(watch, deeds))
        self.assertEqual(deeds, given)
        self.assertEqual((watch.things(), watch["a"]), (["a"], [(PLAIN, 1)]))
        self.assertIsNone(try_all(watch, []))
        self.assertEqual(len(all_shown(watch)), 5)

    def test_refused(self):
        watch = watch_of(a=[(PLAIN, 1)])
        before = all_shown(copy.deepcopy(watch))
        for deed, error in [
            (("enter", "a"), KnownThing), (("enter", 1), InvalidName), (("see", "c", PLAIN, 1), UnknownThing),
            (("see", "a", [], 1), InvalidDeal), (("see", "a", PLAIN, -1), InvalidPlace), (("see", "a", PLAIN, 2), CannotBe),
            (("merge", "a", "a"), SameThing), (("merge", "a", None), UnknownThing), (("unknown",), UnknownDeed),
        ]:
            for ahead in ([], [("enter", "b")], [("undo",)] * 2 + [("enter", "a"), ("see", "a", PLAIN, 1)]):
                with self.assertRaises(error):
                    try_all(watch, ahead + [deed, ("enter", "d")])
                self.assertEqual(all_shown(copy.deepcopy(watch)), before)
        with self.assertRaises(NothingToUndo):
            try_all(watch, [("undo",)] * 3)
        self.assertEqual(all_shown(watch), before)

    def test_unknown_deeds(self):
        wrong = other_values() + [
            ["enter", "b"], "enter", ("enter",), ("enter", "b", "c"), ("see", "a", PLAIN), ("see", "a", PLAIN, 1, 1), ("see",),
            ("merge", "a"), ("merge", "a", "b", "c"), ("undo", 1), ("undo", ()), ["undo"], ("undo",)[0], ("block",),
            ("block", ()), ("block", (("enter", "b"),)), ("block", None), ("block", [], []), ("block", {}), ("block", "ab"),
            ("Enter", "b"), (("enter",), "b"), (None, "b"), ([], "b"), ({}, "b"), (1, "b"), ("things",), ("trial",), ("", "b"),
            ("remainders", "a"), ("where", "a", PLAIN), {"enter": "b"}, nested(100), ("__init__",), ("block", ["enter", "b"])[:1],
        ]
        for deed in wrong:
            watch = watch_of(a=[(PLAIN, 1)])
            with self.subTest(str(deed)[:100]), self.assertRaises(UnknownDeed):
                try_all(watch, [("enter", "b"), deed])
            self.assertEqual(watch.things(), ["a"])
            # It is refused only when it is come to: here another one is refused ahead of it.
            with self.assertRaises(KnownThing):
                try_all(watch, [("enter", "a"), deed])
            # In a block within, the entries ahead of it are taken back, and the next entry comes.
            self.assertIsNone(try_all(watch, [("enter", "c"), ("block", [("enter", "d"), deed]), ("enter", "e")]))
            self.assertEqual(watch.things(), ["a", "c", "e"])

    def test_blocks(self):
        watch = watch_of(a=[(PLAIN, 1)])
        inner = [("enter", "b"), ("block", [("see", "b", PLAIN, 0), ("see", "b", PLAIN, 1)]), ("see", "b", plain(6), 2)]
        try_all(watch, [("block", inner), ("merge", "a", "b")][:1])
        self.assertEqual((watch.things(), watch["b"]), (["a", "b"], [(plain(6), 2)]))
        with self.assertRaises(CannotBe):
            try_all(watch, [("block", [("undo",), ("undo",), ("undo",)]), ("see", "a", PLAIN, 1), ("see", "a", PLAIN, 0)])
        self.assertEqual((watch.things(), watch["a"]), (["a", "b"], [(PLAIN, 1)]))
        # What a block took back can be taken back no more, unless it was refused.
        try_all(watch, [("block", [("undo",), ("undo",), ("unknown",)]), ("block", [("undo",)])])
        self.assertEqual((watch.things(), watch["b"]), (["a", "b"], []))

    def test_deep_blocks(self):
        deeds = [("enter", "b"), ("unknown",)]
        for _ in range(50):
            deeds = [("enter", "a"), ("block", deeds)]
        watch = Watch()
        try_all(watch, deeds)
        self.assertEqual(watch.things(), ["a"])

    def test_against_a_model(self):
        chance = random.Random(101)
        refused = {}
        for _ in range(400):
            watch, model = Watch(), Model()
            begin = [[("enter", name) for name in "abcdefg"]] if chance.random() < 0.4 else []
            for entries in begin + [[some_entry(chance) for _ in range(chance.choice([1, 1, 2, 4]))] for _ in range(15)]:
                error = model.do_all(entries)
                refused[error] = True
                try:
                    try_all(watch, entries)
                    self.assertIsNone(error)
                except MarkError as found:
                    self.assertIs(type(found), error)
                self.assertEqual([(thing, watch[thing]) for thing in watch.things()], list(model.things.items()))
                self.assertEqual(len(watch), len(model.things))
                for thing in model.things:
                    self.assertEqual(watch.where(thing, plain(5)), told(model.things[thing], plain(5)))
            states = [[(thing, sightings) for thing, sightings, _ in state] for state in all_shown(watch)]
            self.assertEqual(states, [list(model.things.items())] + [list(past.items()) for past in reversed(model.past)])
        for error in (None, KnownThing, UnknownThing, SameThing, CannotBe, NothingToUndo, TooMany):
            self.assertIn(error, refused)


if __name__ == "__main__":
    unittest.main()
