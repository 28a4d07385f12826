"""Rules, right and wrong ones, and what the document says of them, going through the marks."""

import random
from fractions import Fraction
from itertools import product
from math import lcm

from tests.samples import nested, other_values

HERE = ("place", 0)
THERE = ("place", 1)
WORDS = """all and chain clear class deal drop else end fill if look none not or phase place plan put renew rule
    self split then""".split()


def wrong_names():
    """Values that are no names."""
    return WORDS + [
        None, True, False, 0, 1, 10 ** 300, "", "abcdefghi", "A", "Ab", "h1", "a b", " a", "a ", "a_b", "-", "a\n",
        ("h",), ["h"], {"h": 1}, {}, (), [], "a" * 2000, nested(110), nested(110, list),
    ]


def right_names():
    """Names, also such as nearly are one of the words."""
    return ["a", "z", "h", "abcdefgh", "zzzzzzzz", "al", "alls", "ende", "placed", "splits", "thenn", "i", "selfs"]


def fraction(part):
    return part.numerator, part.denominator


def inner_of(rule):
    return () if rule[0] == "place" else rule[3] if rule[0] == "split" else rule[4:]


def places_in(rule):
    """How many places stand in a rule."""
    return 1 if rule[0] == "place" else sum(places_in(inner) for inner in inner_of(rule))


def follow(rule, marks):
    """The place of a thing, by the words of the document."""
    while rule[0] != "place":
        mark = marks[rule[1]]
        if rule[0] == "split":
            rule = rule[3][mark % rule[2]]
        else:
            rule = rule[4] if mark % rule[2] == rule[3] else rule[5]
    return rule[1]


def multiples_of(rules):
    """A dict from the names of the rules to common multiples of their moduli."""
    found = {}
    waiting = list(rules)
    while waiting:
        rule = waiting.pop()
        if rule[0] != "place":
            found[rule[1]] = lcm(found.get(rule[1], 1), rule[2])
        waiting += inner_of(rule)
    return found


def all_marks(rules):
    """All marks up to common multiples, as dicts, in their order."""
    multiples = multiples_of(rules)
    names = sorted(multiples)
    return [dict(zip(names, marks)) for marks in product(*[range(multiples[name]) for name in names])]


def shares_of(things):
    """A dict from what was told of each of all things to its share."""
    return {told: fraction(Fraction(things.count(told), len(things))) for told in things}


def some_rule(chance, names, depth, places, ifs=0):
    """A rule made at random, with few levels."""
    if depth == 0 or chance.random() < 0.15:
        return ("place", chance.randrange(places))
    name = chance.choice(names)
    if ifs < 4 and chance.random() < 0.6:
        modulus = chance.randint(1, 7)
        yes, no = [some_rule(chance, names, depth - 1, places, ifs + 1) for _ in range(2)]
        return ("if", name, modulus, chance.randrange(modulus), yes, no)
    modulus = chance.randint(2, 4)
    return ("split", name, modulus, tuple(some_rule(chance, names, depth - 1, places, ifs) for _ in range(modulus)))


def some_pair(chance, names, most):
    """Two rules made at random, for whose names there are few marks to go through."""
    while True:
        pair = [some_rule(chance, names, chance.randint(0, 4), chance.randint(1, 4)) for _ in range(2)]
        if max(places_in(rule) for rule in pair) <= 40 and len(all_marks(pair)) <= most:
            return pair


def some_pairs(seed, many, most=2000):
    """So many pairs of rules, the same ones for each call with the same seed."""
    chance = random.Random(seed)
    lists = [["h"], ["h"], ["a", "b"], ["b", "a"]]
    return [some_pair(chance, chance.choice(lists), most) for _ in range(many)]


def rule_of_places(many):
    """A rule with so many places in it."""
    places = [("place", k) for k in range(many)]
    parts = [places[k:k + 10] for k in range(0, many, 10)]
    return ("split", "h", len(parts), tuple(("split", "h", len(p), tuple(p)) if len(p) > 1 else p[0] for p in parts))


def rule_of_levels(many):
    """A rule with so many levels."""
    rule = HERE
    for _ in range(many - 1):
        rule = ("split", "h", 2, (rule, THERE))
    return rule


def rule_of_ifs(classes, last=THERE, name="h"):
    """A rule that comes to its last rule if the mark lies in none of the classes."""
    rule = last
    for at, one in reversed(list(enumerate(classes))):
        rule = ("if", name) + one + (("place", 10 + at), rule)
    return rule


def rule_within(classes, last=THERE, name="h"):
    """A rule that comes to its last rule if the mark lies in all of the classes."""
    rule = last
    for one in reversed(classes):
        rule = ("if", name) + one + (rule, HERE)
    return rule


def wrong_alone():
    """Values that are no rules, the wrong thing standing at the top of them."""
    found = other_values() + [
        ["place", 1], ("place",), ("x",), ("rule",), ("place", 1, 2), ("places", 1), ("Place", 1), (1, "place"), ("place", (1,)),
        ("if", "h", 4, 1, HERE), ("if", "h", 4, 1, HERE, THERE, HERE), ["if", "h", 4, 1, HERE, THERE],
        ("if", "h", (4, 1), HERE, THERE), ("if", 4, 1, HERE, THERE), ("if",), ("h", "if", 4, 1, HERE, THERE),
        ("split", "h", 2), ("split", "h", 2, HERE, THERE), ["split", "h", 2, (HERE, THERE)], ("split", "h", 2, HERE),
        ("split", "h", 2, [HERE, THERE]), ("split", "h", (HERE, THERE)), ("split", "h", 2, {0: HERE, 1: THERE}),
        ("split", "h", 2, (HERE,)), ("split", "h", 2, (HERE,) * 3), ("split", "h", 2, ()), ("split",), ("place", -1),
        ("split", "h", 13, (HERE,) * 13), ("split", "h", 1, (HERE,)), ("split", "h", 0, ()), ("split", "h", -1, ()),
        ("place", 10 ** 300 + 1), ("if", "h", 10 ** 300 + 1, 0, HERE, THERE), ("if", "h", 4, 4, HERE, THERE),
        ("if", "h", 4, -1, HERE, THERE), ("if", "h", 0, 0, HERE, THERE), ("if", "h", -4, -1, HERE, THERE),
        (("place",), 1), (["if"], "h", 4, 1, HERE, THERE), (None, 1), ({}, 1), ("split", "h", 3, (HERE, THERE)),
    ]
    for wrong in wrong_names():
        found += [("if", wrong, 4, 1, HERE, THERE), ("split", wrong, 2, (HERE, THERE))]
    for wrong in [None, True, False, "1", "", (), (1,), [1], {}, nested(110)]:
        found += [
            ("place", wrong), ("if", "h", wrong, 0, HERE, THERE), ("if", "h", 4, wrong, HERE, THERE),
            ("split", "h", wrong, (HERE, THERE)), ("split", "h", 2, wrong), ("split", "h", wrong, (HERE,)),
        ]
    return found


def wrong_rules():
    """Values that are no rules, but for those that only exceed a size."""
    found = wrong_alone()
    for wrong in list(found):
        found += [("if", "h", 4, 1, wrong, HERE), ("if", "h", 4, 1, HERE, wrong), ("split", "h", 2, (wrong, HERE))]
        found += [("split", "h", 3, (HERE, THERE, wrong)), ("if", "a", 4, 1, HERE, ("split", "b", 2, (HERE, wrong)))]
    return found


def too_great_rules():
    """Values that are rules, but for one size."""
    five = [(k, 0) for k in range(2, 7)]
    names = ("if", "a", 2, 0, HERE, ("if", "b", 2, 0, HERE, ("if", "c", 2, 0, HERE, THERE)))
    return [
        rule_of_places(41), rule_of_places(60), ("split", "h", 2, (rule_of_places(20), rule_of_places(21))),
        rule_of_levels(9), rule_of_levels(100), ("if", "h", 2, 0, rule_of_levels(8), HERE), names,
        ("split", "h", 3, (rule_of_ifs([(2, 0)], name="a"), rule_of_ifs([(2, 0)], name="b"), HERE)),
        rule_of_ifs(five), rule_within(five), ("split", "h", 2, (HERE, rule_of_ifs(five))),
        rule_of_ifs(five[:2], ("split", "h", 2, (rule_within(five[2:]), HERE))),
    ]
