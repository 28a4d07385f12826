"""Families, right and wrong ones, made at random or by hand."""

import random
from math import lcm

from tests.samples import nested, other_values

GREAT = 10 ** 60
SOME = (10, ((0, 3), (5, 7)))


def lies_in_family(family, mark):
    return any(start <= mark % family[0] < end for start, end in family[1])


def marks_in_all(families):
    """Go through the marks of a common period for those that lie in all of the families."""
    period = lcm(*[family[0] for family in families])
    return [mark for mark in range(period) if all(lies_in_family(family, mark) for family in families)]


def some_family(chance, greatest, most):
    """A family made at random."""
    period = chance.randint(1, greatest)
    many = min(chance.randint(0, most), (period + 1) // 2)
    ends = sorted(chance.sample(range(period + 1), 2 * many))
    return chance.choice([(period, tuple(zip(ends[::2], ends[1::2]))), (period, ((0, period),))])


def some_families(seed, many, sizes=(1, 2, 2, 2), greatest=30, most=4):
    """So many lists of families, the same ones for each call with the same seed."""
    chance = random.Random(seed)
    return [[some_family(chance, greatest, most) for _ in range(chance.choice(sizes))] for _ in range(many)]


def family_of_runs(many, period=1000):
    """A family with so many runs."""
    return (period, tuple((period * k // many, period * k // many + 1 + k % 3) for k in range(many)))


def great_family(chance, period, many):
    """A family with so many runs and a great period."""
    ends = sorted(chance.randrange(period) for _ in range(2 * many))
    return (period, tuple(zip(ends[::2], ends[1::2])))


def wrong_families():
    """Values that are no families that can be counted."""
    found = other_values() + [
        [10, ((0, 3),)], (10, [(0, 3)]), (10, ([0, 3],)), (10,), (10, ((0, 3),), 0), ((0, 3), 10), (10, (0, 3)), (0, ()),
        (-10, ()), (GREAT + 1, ()), (10, ((0, 0),)), (10, ((3, 3),)), (10, ((3, 2),)), (10, ((-1, 3),)), (10, ((0, 11),)),
        (10, ((10, 11),)), (10, ((0, 3), (3, 5))), (10, ((0, 3), (2, 5))), (10, ((5, 7), (0, 3))), (10, ((0, 3), (0, 3))),
        (10, ((0, 3), (5, 11))), (10, ((0, 3), (10, 10))), (10, ((0,),)), (10, ((0, 3, 5),)), (10, ((0, 3), None)),
        (10, ((0, 3), 5)), (10, {}), (10, {(0, 3): 1}), family_of_runs(65), family_of_runs(333),
    ]
    for wrong in [None, True, False, "0", "", (0,), [], {}, nested(110)]:
        found += [(wrong, ()), (wrong, ((0, 1),)), (10, wrong), (10, (wrong,)), (10, ((wrong, 3),)), (10, ((0, wrong),))]
        found += [(10, ((0, 3), (wrong, 7))), (10, ((0, 3), (5, wrong)))]
    return found
