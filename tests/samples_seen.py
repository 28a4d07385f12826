"""Sightings, right and wrong ones, and what the document says of them, going through the marks."""

import random
from math import lcm

from tests.samples import nested, other_values, wrong_numbers
from tests.samples_deals import PLAIN, least_period, place_in, row_of, some_deal, wrong_deals


def some_sightings(chance, many, greatest=12):
    """So many sightings of one thing, most of which can be, made at random."""
    mark = chance.randrange(5000)
    found = []
    for _ in range(many):
        deal = some_deal(chance, greatest, 6)
        place = place_in(deal, mark) if chance.random() < 0.93 else chance.randint(0, greatest)
        found.append((deal, place))
    return found


def some_lists_of_sightings(seed, many, most=6, greatest=12):
    """So many lists of sightings with small periods, the same ones for each call with the same seed."""
    chance = random.Random(seed)
    found = []
    while len(found) < many:
        sightings = some_sightings(chance, chance.randint(0, most), greatest)
        if lcm(*[deal[0] for deal, _ in sightings]) <= 4000:
            found.append(sightings)
    return found


def left_by_words(sightings):
    """The modulus and the remainders that are left, going through the marks."""
    modulus = lcm(*[least_period(row_of(deal)) for deal, _ in sightings])
    return modulus, tuple(
        mark for mark in range(modulus) if all(place_in(deal, mark) == place for deal, place in sightings)
    )


def too_many_by_words(sightings):
    """Whether more than 100 remainders are left behind some sighting."""
    return any(len(left_by_words(sightings[:k + 1])[1]) > 100 for k in range(len(sightings)))


def wrong_sightings():
    """Values that are no list of sightings."""
    found = [value for value in other_values() if value != []]
    found += [(), ((PLAIN, 1),), {PLAIN: 1}, [PLAIN], [[PLAIN, 1]], [(PLAIN,)], [(PLAIN, 1, 1)], [(1, PLAIN)], [nested(100)]]
    found += [[(PLAIN, 1)] * 21, [(PLAIN, 1)] * 1000, [(PLAIN, 1), None], [(PLAIN, 1), (PLAIN, 5), (PLAIN, -1)]]
    for wrong in wrong_numbers():
        found += [[(PLAIN, wrong)], [(PLAIN, 5), (PLAIN, 3), (PLAIN, wrong)]]
    for wrong in wrong_deals():
        found += [[(wrong, 1)], [(PLAIN, 1), (wrong, 1)]]
    return found


def many_left(times):
    """Sightings of which the last one leaves 6 ** times remainders, times being at most 3."""
    moduli = (60, 77, 221)
    deals = [(modulus, tuple((k * 7, -k * 7) for k in range(6))) for modulus in moduli[:times]]
    return [(deal, 3) for deal in deals]
