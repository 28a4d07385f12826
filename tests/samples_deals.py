"""Deals, right and wrong ones, and what the document says of them, going through the marks."""

import random
from math import lcm

from tests.samples import nested, other_values

GREAT = 10 ** 30
PLAIN = (4, ((0, 0),))


def place_in(deal, mark):
    """The place of a mark, by the words of the document."""
    remainder = mark % deal[0]
    return remainder + [shift for start, shift in deal[1] if start <= remainder][-1]


def row_of(deal):
    """The places of all remainders by the period."""
    return [place_in(deal, mark) for mark in range(deal[0])]


def least_period(row):
    """The least period of a row that repeats itself by its length."""
    whole = len(row)
    return min(p for p in range(1, whole + 1) if whole % p == 0 and row[:p] * (whole // p) == row)


def pieces_of(row):
    """The fewest pieces that tell the places of a row."""
    shifts = [place - mark for mark, place in enumerate(row)]
    return tuple((k, shift) for k, shift in enumerate(shifts) if k == 0 or shifts[k - 1] != shift)


def runs_of(marks):
    """The runs of an ascending list of marks."""
    found = []
    for mark in marks:
        if found and found[-1][1] == mark:
            found[-1][1] = mark + 1
        else:
            found.append([mark, mark + 1])
    return tuple(tuple(run) for run in found)


def times_over(deal, times):
    """The same deal, told by a longer period."""
    period, pieces = deal
    return (period * times, tuple((start + turn * period, shift - turn * period)
                                  for turn in range(times) for start, shift in pieces))


def some_pieces(chance, period, many):
    """A deal of so many pieces, made at random."""
    starts = [0] + sorted(chance.sample(range(1, period), min(period, many) - 1))
    if chance.random() < 0.5:
        return (period, tuple((start, chance.randint(-start, 8)) for start in starts))
    return (period, tuple((start, chance.choice([0, -start, 1, 0])) for start in starts))


def some_deal(chance, greatest, most):
    """A deal with a small period and few pieces, made at random."""
    way = chance.random()
    if way < 0.25:
        return (chance.randint(1, greatest), ((0, 0),))
    if way < 0.5:
        inner = some_pieces(chance, chance.randint(1, max(1, greatest // 3)), max(1, most // 3))
        times = chance.randint(1, most // len(inner[1]))
        return times_over(inner, times) if inner[0] * times <= greatest else inner
    return some_pieces(chance, chance.randint(1, greatest), chance.randint(1, most))


def product_of_pieces(deals):
    many = 1
    for deal in deals:
        many *= len(deal[1])
    return many


def some_lists(seed, many, sizes, greatest=12, most=6, pieces=64):
    """So many lists of deals with small periods, the same ones for each call with the same seed."""
    chance = random.Random(seed)
    found = []
    while len(found) < many:
        deals = [some_deal(chance, greatest, chance.choice([1, 2, most])) for _ in range(chance.choice(sizes))]
        if chance.random() < 0.3:
            deals[-1] = chance.choice(deals)
        if product_of_pieces(deals) <= pieces and lcm(*[deal[0] for deal in deals]) <= 3000:
            found.append(deals)
    return found


def some_deals(seed, many):
    """So many deals with small periods."""
    return [deals[0] for deals in some_lists(seed, many, [1], 24)]


def deal_of_pieces(many, period=60):
    """A deal with so many pieces."""
    return (period, tuple((k * (period // 10), k % 2) for k in range(many)))


def wrong_deals():
    """Values that are no deals."""
    found = other_values() + [
        [4, ((0, 0),)], (4, [(0, 0)]), (4, ([0, 0],)), (4,), (4, ((0, 0),), 0), ((0, 0), 4), (4, (0, 0)), (4, 0, 0),
        (0, ((0, 0),)), (-4, ((0, 0),)), (GREAT + 1, ((0, 0),)), (4, ()), (4, {(0, 0): 1}), {4: ((0, 0),)},
        deal_of_pieces(7), (4, ((1, 0),)), (4, ((-1, 1),)), (4, ((0, 0), (0, 0))), (4, ((0, 0), (2, 0), (2, 1))),
        (4, ((0, 0), (3, 0), (2, 0))), (4, ((0, 0), (4, 0))), (4, ((0, 0), (5, 0))), (4, ((2, 0), (0, 0))),
        (4, ((0, GREAT + 1),)), (GREAT, ((0, 0), (GREAT - 1, -GREAT - 1))), (4, ((0, -1),)), (4, ((0, 0), (2, -3))),
        (4, ((0,),)), (4, ((0, 0, 0),)), (4, ((0, 0), 2)), (4, ((0, 0), ())), (4, ((0, 0), None)), (4, "00"),
    ]
    for wrong in [None, True, False, "0", "", (), (0,), [], {}, nested(110)]:
        found += [(wrong, ((0, 0),)), (4, wrong), (4, (wrong,)), (4, ((wrong, 0),)), (4, ((0, wrong),))]
        found += [(4, ((0, 0), (wrong, 0))), (4, ((0, 0), (2, wrong)))]
    return found
