"""The ways down a rule to its places, and how the places share out the marks."""

from math import gcd

from bymarks.cells import in_class, out_of_class
from bymarks.classes import common_class
from bymarks.integers import common_multiple


def cells_down(rule, names, cell):
    """Return the list of tuples (place, cell): the ways down the rule that things of this cell may go."""
    if rule[0] == "place":
        return [(rule[1], cell)]
    at = names.index(rule[1])
    if rule[0] == "if":
        steps = [(rule[4], in_class(cell, at, rule[2:4])), (rule[5], out_of_class(cell, at, rule[2:4]))]
    else:
        steps = [(rule[3][k], in_class(cell, at, (rule[2], k))) for k in range(rule[2])]
    return [way for inner, part in steps if part is not None for way in cells_down(inner, names, part)]


def steps_of_if(rule, at, box):
    """Return the tuples (rule, sign, box) into which an if parts a box."""
    common = common_class(box[at], rule[2:4])
    if common is None:
        return [(rule[5], 1, box)]
    if common == box[at]:
        return [(rule[4], 1, box)]
    inner = box[:at] + (common,) + box[at + 1:]
    # What does not lie in the class is told as all of the box, less what does lie in it.
    return [(rule[4], 1, inner), (rule[5], 1, box), (rule[5], -1, inner)]


def steps_of_split(rule, at, box):
    """Return the tuples (rule, sign, box) into which a split parts a box."""
    commons = [common_class(box[at], (rule[2], k)) for k in range(rule[2])]
    return [
        (rule[3][k], 1, box[:at] + (commons[k],) + box[at + 1:]) for k in range(rule[2]) if commons[k] is not None
    ]


def signed_boxes(rule, names, sign, box):
    """Return the list of tuples (place, sign, box) that tells how a rule shares out a box.

    A box is a tuple of classes, one for each name. For each thing in the box, the signs of those tuples
    in whose boxes it lies add up to the sign that was passed for its place, to 0 for any other place.
    """
    if rule[0] == "place":
        return [(rule[1], sign, box)]
    at = names.index(rule[1])
    steps = steps_of_if(rule, at, box) if rule[0] == "if" else steps_of_split(rule, at, box)
    return [part for inner, turn, inside in steps for part in signed_boxes(inner, names, sign * turn, inside)]


def rows_of(factors):
    """Return the list of tuples (factor, box) of a dict from boxes to factors, without those that are 0."""
    return [(factor, box) for box, factor in factors.items() if factor != 0]


def boxes_by_place(rule, names):
    """Return a dict from the places of the rule to lists of tuples (factor, box): by these they share out all marks."""
    factors = {}
    for place, sign, box in signed_boxes(rule, names, 1, ((1, 0),) * len(names)):
        if place not in factors:
            factors[place] = {}
        factors[place][box] = factors[place].get(box, 0) + sign
    return {key: rows_of(told) for key, told in factors.items()}


def size_of(box):
    """Return the number of which the box holds one part."""
    size = 1
    for one in box:
        size = size * one[0]
    return size


def weighed(boxes):
    """Return (whole, rows): rows are tuples (weight, box), so many of the whole being told by the box."""
    whole = common_multiple([size_of(box) for _, box in boxes])
    return whole, [(factor * (whole // size_of(box)), box) for factor, box in boxes]


def moduli_of(places):
    """Return the ascending list of the moduli in the boxes of all places."""
    return sorted(set([one[0] for boxes in places.values() for _, box in boxes for one in box]))


def shared_moduli(one, other):
    """Return a dict from pairs of moduli, one of each of two rules' boxes, to their greatest common divisors."""
    others = moduli_of(other)
    return {(modulus, further): gcd(modulus, further) for modulus in moduli_of(one) for further in others}


def common_factor(one, other, shared):
    """Return how many times the product of the shares of two boxes is the share of what lies in both."""
    factor = 1
    for first, second in zip(one, other):
        divisor = shared[first[0], second[0]]
        if (first[1] - second[1]) % divisor != 0:
            return 0
        factor = factor * divisor
    return factor


def common_count(rows, others, shared):
    """Return how many of the product of two wholes lie in what both lists of weighed boxes tell."""
    count = 0
    for weight, box in rows:
        inner = 0
        for further, other in others:
            factor = common_factor(box, other, shared)
            if factor > 0:
                inner = inner + further * factor
        count = count + weight * inner
    return count
