"""Where deals agree: the runs of marks that have one place by all of them."""

from math import lcm

from bymarks.classes import common_class
from bymarks.deals import check_deal, remainders_to
from bymarks.errors import InvalidDeals, InvalidPlace, TooMany
from bymarks.families import family_of, size_of_family
from bymarks.integers import is_natural
from bymarks.shares import fraction

MOST_DEALS = 5
MOST_PIECES = 64


def product_of_pieces(deals):
    """Return the numbers of pieces of the deals, as they are handed in, multiplied."""
    many = 1
    for deal in deals:
        many = many * len(deal[1])
    return many


def limit_pieces(deals):
    """Raise TooMany if the numbers of pieces of the deals, multiplied, are too many."""
    if product_of_pieces(deals) > MOST_PIECES:
        raise TooMany(f"the numbers of pieces, multiplied, are more than {MOST_PIECES}")


def check_deals(deals, most):
    """Raise the errors of all functions that take a list of deals, at most so many."""
    if not isinstance(deals, list) or not 1 <= len(deals) <= most:
        raise InvalidDeals(f"a list of 1 to {most} deals is needed")
    for deal in deals:
        check_deal(deal)
    limit_pieces(deals)


def check_place(place):
    """Raise InvalidPlace for what is no place."""
    if not is_natural(place):
        raise InvalidPlace("a place is an integer from 0 on")


def share(deal, place):
    """Return the share of the marks that go to the place."""
    check_deal(deal)
    check_place(place)
    return fraction(len(remainders_to(deal, place)), deal[0])


def together(deals):
    """Return the family of the marks on which the deals agree."""
    check_deals(deals, MOST_DEALS)
    return family_of(deals)


def agreement(deals):
    """Return the share of the marks on which the deals agree, and the least of them or None."""
    family = together(deals)
    least = family[1][0][0] if family[1] else None
    return fraction(size_of_family(family), family[0]), least


def parting(deals):
    """Return the least mark on which the deals do not agree, or None."""
    period, runs = together(deals)
    if not runs or runs[0][0] > 0:
        return 0
    return runs[0][1] if runs[0][1] < period else None


def flow(one, other, start, end):
    """Return the share of the marks that go from the place start to the place end, and the least of them or None."""
    check_deal(one)
    check_deal(other)
    limit_pieces([one, other])
    check_place(start)
    check_place(end)
    pairs = [
        common_class((one[0], first), (other[0], second))
        for first in remainders_to(one, start)
        for second in remainders_to(other, end)
    ]
    marks = [common[1] for common in pairs if common is not None]
    return fraction(len(marks), lcm(one[0], other[0])), min(marks, default=None)
