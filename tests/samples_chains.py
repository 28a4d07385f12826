"""Chains, right and wrong ones, and what the document says of them, going through the marks."""

import random
from fractions import Fraction
from itertools import combinations, product
from math import lcm

from tests.samples import nested, other_values
from tests.samples_rules import fraction, wrong_names

LINK = ("h", 2, ("b", "x"))


def follow_chain(chain, begin, marks):
    """The way of a thing, by the words of the document."""
    steps, at = [], begin
    while at in chain and at not in [chooser for chooser, _ in steps]:
        name, modulus, nexts = chain[at]
        steps.append((at, marks[name] % modulus))
        at = nexts[marks[name] % modulus]
    return tuple(steps), at


def things_by_way(chain, begin):
    """A dict from each way to the list of the marks, as dicts, of the things that go it."""
    multiples = {}
    for name, modulus, _ in chain.values():
        multiples[name] = lcm(multiples.get(name, 1), modulus)
    names = sorted(multiples)
    found = {}
    for marks in product(*[range(multiples[name]) for name in names]):
        thing = dict(zip(names, marks))
        found.setdefault(follow_chain(chain, begin, thing), []).append(thing)
    return found


def share_of(things, found):
    """The share of some things among all that were gone through."""
    return fraction(Fraction(len(things), sum(len(more) for more in found.values())))


def starved_exits(chain, found):
    """The set of the exits that nothing takes, of choosers to which something comes."""
    taken = {step for steps, _ in found for step in steps}
    come = {chooser for chooser, _ in taken}
    return {(chooser, i) for chooser in come for i in range(chain[chooser][1])} - taken


def reasons(chain, found, chooser, i):
    """The ascending list of tuples (steps, k) for a starved exit."""
    heads = {steps[:k] for steps, _ in found for k in range(len(steps)) if steps[k][0] == chooser}
    rows = []
    for steps in sorted(heads):
        barred = [
            k for k, (ahead, j) in enumerate(steps)
            if chain[ahead][0] == chain[chooser][0]
            and not any(h % chain[ahead][1] == j and h % chain[chooser][1] == i for h in range(60))
        ]
        rows.append((steps, barred[0]))
    return rows


def with_own(chain, own):
    """The chain in which some choosers have marks of their own; it may have too many names of marks."""
    return {chooser: (("own" + chooser,) if chooser in own else link[:1]) + link[1:] for chooser, link in chain.items()}


def live_exits(chain, begin):
    """Which exits of which choosers are taken, by trying all ways and remainders up to 60 of each mark."""
    taken, come = set(), set()
    waiting = [((), begin, {})]
    while waiting:
        steps, at, known = waiting.pop()
        if at not in chain or at in [chooser for chooser, _ in steps]:
            continue
        come.add(at)
        name, modulus, nexts = chain[at]
        for i in range(modulus):
            left = tuple(h for h in known.get(name, range(60)) if h % modulus == i)
            if left:
                taken.add((at, i))
                waiting.append((steps + ((at, i),), nexts[i], {**known, name: left}))
    return come, taken


def least_own(chain, begin):
    """The least of the shortest lists of choosers by whose own marks no exit is starved, trying all lists."""
    for many in range(len(chain) + 1):
        for own in combinations(sorted(chain), many):
            changed = with_own(chain, own)
            come, taken = live_exits(changed, begin)
            if all((chooser, i) in taken for chooser in come for i in range(chain[chooser][1])):
                return list(own)
    return None


def some_chain(chance, most_marks=4, most=6):
    """A chain made at random, and one of its choosers."""
    choosers = chance.sample("abcdefg", chance.randint(1, most))
    names = chance.sample("hijk", chance.randint(1, most_marks))
    ending = chance.choice([0.1, 0.3, 0.5])
    chain = {}
    for chooser in choosers:
        modulus = chance.randint(2, 6)
        nexts = [chance.choice("xyz" if chance.random() < ending else choosers) for _ in range(modulus)]
        chain[chooser] = (chance.choice(names), modulus, tuple(nexts))
    return chain, chance.choice(choosers)


def some_chains(seed, many, most_marks=4, most=6):
    """So many chains with choosers, the same ones for each call with the same seed."""
    chance = random.Random(seed)
    return [some_chain(chance, most_marks, most) for _ in range(many)]


def tree_of(moduli, names):
    """A chain in which each chooser sends all to the next one, the last one to ends of their own."""
    choosers = "abcdef"[:len(moduli)]
    chain = {}
    for k, chooser in enumerate(choosers):
        to = ["xyzuvw"[i] if k + 1 == len(choosers) else choosers[k + 1] for i in range(moduli[k])]
        chain[chooser] = (names[k], moduli[k], tuple(to))
    return chain


def line_of(moduli, names):
    """A chain in which each chooser sends a thing to the next one by exit 0 alone, to an end by the others."""
    choosers = "abcdef"[:len(moduli)]
    nexts = list(choosers[1:]) + ["x"]
    return {c: (names[k], moduli[k], (nexts[k],) + ("x",) * (moduli[k] - 1)) for k, c in enumerate(choosers)}


def wrong_links():
    """Values that do not tell how a chooser chooses."""
    found = other_values() + [
        ["h", 2, ("b", "x")], ("h", 2), ("h", 2, "b", "x"), ("h", ("b", "x")), ("h", 2, ["b", "x"]), ("h", 2, "bx"),
        ("h", 1, ("b",)), ("h", 0, ()), ("h", 7, ("b",) * 7), ("h", -2, ("b", "x")), ("h", 2, ("b",)), ("h", 2, ()),
        ("h", 2, ("b", "x", "y")), ("h", 3, ("b", "x")), ("h", True, ("b",)), ("h", "2", ("b", "x")), (2, "h", ("b", "x")),
        ("h", None, ("b", "x")), ("h", 2, {"b": 0, "x": 1}), ("h", 2, ("b", "x"), ()), ("h", 2, nested(110)),
    ]
    for wrong in wrong_names():
        found += [(wrong, 2, ("b", "x")), ("h", 2, (wrong, "x")), ("h", 2, ("b", wrong))]
    return found


def wrong_chains():
    """Values that are no chains."""
    found = [value for value in other_values() if not isinstance(value, dict)]
    found += [{}, [("a", LINK)], ("a", LINK), LINK, [LINK], {chooser: LINK for chooser in "abcdefg"}]
    found.append({chooser: (name, 2, ("x", "y")) for chooser, name in zip("abcde", "hijkl")})
    for wrong in wrong_links():
        found += [{"a": wrong}, {"a": LINK, "b": wrong}]
    for wrong in wrong_names():
        if not isinstance(wrong, (list, dict)):
            found += [{wrong: LINK}, {"a": LINK, wrong: LINK}]
    return found
