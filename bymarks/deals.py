"""Deals: they tell the place of each mark by its remainder, in pieces."""

from bymarks.errors import InvalidDeal, InvalidNumber
from bymarks.integers import is_integer
from bymarks.marks import check_mark

GREATEST = 10 ** 30
MOST_PIECES = 6


def is_piece(value):
    """Tell whether the value is a piece of some deal."""
    if not isinstance(value, tuple) or len(value) != 2:
        return False
    start, shift = value
    if not is_integer(start) or not is_integer(shift):
        return False
    return -GREATEST <= shift <= GREATEST and start + shift >= 0


def is_deal(value):
    """Tell whether the value is a deal."""
    if not isinstance(value, tuple) or len(value) != 2:
        return False
    period, pieces = value
    if not is_integer(period) or not 1 <= period <= GREATEST:
        return False
    if not isinstance(pieces, tuple) or not 1 <= len(pieces) <= MOST_PIECES:
        return False
    if not all([is_piece(piece) for piece in pieces]) or pieces[0][0] != 0:
        return False
    ends = [piece[0] for piece in pieces[1:]] + [period]
    return all([piece[0] < end for piece, end in zip(pieces, ends)])


def check_deal(deal):
    """Return None for a deal, raise InvalidDeal for anything else."""
    if not is_deal(deal):
        raise InvalidDeal("a deal is a tuple (period, pieces), pieces being tuples (start, shift)")


def spans_of(deal):
    """Return the list of tuples (start, end, shift): remainders from start on and less than end have this shift."""
    period, pieces = deal
    ends = [piece[0] for piece in pieces[1:]] + [period]
    return [(piece[0], end, piece[1]) for piece, end in zip(pieces, ends)]


def place_of_mark(deal, mark):
    """Return the place of a mark; nothing is checked."""
    remainder = mark % deal[0]
    return remainder + [shift for start, shift in deal[1] if start <= remainder][-1]


def place_of(deal, mark):
    """Return the place of the mark."""
    check_deal(deal)
    check_mark(mark)
    return place_of_mark(deal, mark)


def remainders_to(deal, place):
    """Return the list of the remainders by the period that go to a place; nothing is checked."""
    return [place - shift for start, end, shift in spans_of(deal) if start <= place - shift < end]


def check_modulus(modulus):
    """Raise InvalidNumber for what is no modulus."""
    if not is_integer(modulus) or modulus < 1:
        raise InvalidNumber("a modulus is an integer from 1 on")


def check_many(many, least):
    """Raise InvalidNumber for what is no integer from this least number on."""
    if not is_integer(many) or many < least:
        raise InvalidNumber("this is not a number of places that can be had")


def made_deal(period, pieces):
    """Return the deal, raise InvalidNumber for a period that is too great."""
    if period > GREATEST:
        raise InvalidNumber("the period of the deal would be too great")
    return period, pieces


def plain(modulus):
    """Return the deal whose places are the remainders."""
    check_modulus(modulus)
    return made_deal(modulus, ((0, 0),))


def split(modulus, many):
    """Return the deal by remainders of which the first many places are split in two."""
    check_modulus(modulus)
    check_many(many, 0)
    if many > modulus:
        raise InvalidNumber("there are not so many places to split")
    if many == 0:
        return plain(modulus)
    if many == modulus:
        return plain(2 * modulus)
    return made_deal(2 * modulus, ((0, 0), (modulus + many, -modulus)))


def linear(base, many):
    """Return the deal with many places that grows from the remainders by base, one split behind the other."""
    check_modulus(base)
    check_many(many, base)
    modulus = base
    while 2 * modulus <= many:
        modulus = 2 * modulus
    return split(modulus, many - modulus)


def joined(pieces):
    """Return the list of the pieces without those that have the shift of the one ahead of them."""
    found = []
    for piece in pieces:
        if not found or found[-1][1] != piece[1]:
            found.append(piece)
    return found


def repeated(pieces, period, times):
    """Return the list of as few pieces as can be that do the same as these, for so many times the period."""
    return joined([
        (start + turn * period, shift - turn * period) for turn in range(times) for start, shift in pieces
    ])


def form(deal):
    """Return the deal that does the same with the least period and the fewest pieces."""
    check_deal(deal)
    period = deal[0]
    pieces = joined(deal[1])
    # Behind each turn of a shorter period another shift begins, so there are at most as many turns as pieces.
    for times in range(len(pieces), 1, -1):
        if period % times == 0:
            part = period // times
            first = [piece for piece in pieces if piece[0] < part]
            if repeated(first, part, times) == pieces:
                return part, tuple(first)
    return period, tuple(pieces)


def changes_of_use(deal):
    """Return the ascending list of tuples (place, change): from this place on, so many more remainders go to one."""
    changes = {}
    for start, end, shift in spans_of(deal):
        changes[start + shift] = changes.get(start + shift, 0) + 1
        changes[end + shift] = changes.get(end + shift, 0) - 1
    return [(place, changes[place]) for place in sorted(changes) if changes[place] != 0]


def uses(deal):
    """Return the list of tuples (first, last, times): so many remainders go to each of these places."""
    changes = changes_of_use(form(deal))
    found = []
    times = 0
    for k in range(len(changes) - 1):
        times = times + changes[k][1]
        if times > 0:
            found.append((changes[k][0], changes[k + 1][0] - 1, times))
    return found
