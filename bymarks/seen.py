"""What sightings of a thing tell of its mark, and of its place by another deal.

What is left of the marks is told by (modulus, remainders), the remainders being an ascending tuple.
"""

from math import gcd

from bymarks.deals import MOST_PIECES, check_deal, form, is_deal, place_of_mark, remainders_to
from bymarks.errors import InvalidSightings, TooMany
from bymarks.integers import inverse, is_natural

MOST_SIGHTINGS = 20
MOST_REMAINDERS = 100


def is_sighting(value):
    """Tell whether the value is a sighting."""
    return isinstance(value, tuple) and len(value) == 2 and is_deal(value[0]) and is_natural(value[1])


def check_sightings(value):
    """Return None for a list of sightings, raise InvalidSightings for anything else."""
    if not isinstance(value, list) or len(value) > MOST_SIGHTINGS or not all([is_sighting(one) for one in value]):
        raise InvalidSightings(f"a list of at most {MOST_SIGHTINGS} tuples (deal, place) is needed")


def left_by_both(one, other):
    """Return what is left of the marks by both of two tuples (modulus, remainders)."""
    shared = gcd(one[0], other[0])
    further = other[0] // shared
    factor = inverse(one[0] // shared, further)
    found = [
        remainder + one[0] * ((behind - remainder) // shared * factor % further)
        for remainder in one[1]
        for behind in other[1]
        if (behind - remainder) % shared == 0
    ]
    return one[0] * further, tuple(sorted(found))


def have_common_mark(one, other):
    """Tell whether a mark is left by both of two tuples (modulus, remainders)."""
    shared = gcd(one[0], other[0])
    rests = {remainder % shared: True for remainder in one[1]}
    return any([remainder % shared in rests for remainder in other[1]])


def least_common_mark(one, other):
    """Return the least mark that is left by both of two tuples (modulus, remainders), or None."""
    return min(left_by_both(one, other)[1], default=None)


def left_behind(left, sighting):
    """Return what is left behind a further sighting; raise TooMany for too many remainders."""
    deal, place = form(sighting[0]), sighting[1]
    found = left_by_both(left, (deal[0], remainders_to(deal, place)))
    if len(found[1]) > MOST_REMAINDERS:
        raise TooMany(f"more than {MOST_REMAINDERS} remainders are left behind a sighting")
    return found


def remainders_left(sightings):
    """Return what is left behind all of the sightings."""
    left = (1, (0,))
    for sighting in sightings:
        left = left_behind(left, sighting)
    return left


def known(sightings):
    """Return (modulus, remainders): the ascending tuple of the remainders that the mark of the thing can have."""
    check_sightings(sightings)
    return remainders_left(sightings)


def first_wrong(sightings):
    """Return the number of the first sighting that, with those ahead of it, leaves no mark; or None."""
    check_sightings(sightings)
    left = (1, (0,))
    for number in range(len(sightings)):
        left = left_behind(left, sightings[number])
        if not left[1]:
            return number
    return None


def least_elsewhere(left, deal, place):
    """Return the least mark that can be and that goes to another place; or None."""
    modulus, remainders = left
    # Marks by steps of the modulus have different remainders by the deal's period until these come again, and
    # of a place's remainders there are no more than the deal has pieces.
    marks = [remainder + modulus * step for remainder in remainders for step in range(MOST_PIECES + 1)]
    return min([mark for mark in marks if place_of_mark(deal, mark) != place], default=None)


def told(sightings, deal):
    """Return what the sightings tell of the place by another deal: a tuple that begins with sure, unsure or never."""
    check_sightings(sightings)
    check_deal(deal)
    left = remainders_left(sightings)
    if not left[1]:
        return ("never",)
    least = left[1][0]
    place = place_of_mark(deal, least)
    other = least_elsewhere(left, deal, place)
    return ("sure", place) if other is None else ("unsure", least, other)
