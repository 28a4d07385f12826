"""Plans: how the deal of a store is changed while it is used, in phases."""

from bymarks.deals import is_deal
from bymarks.errors import InvalidPlan
from bymarks.integers import is_integer
from bymarks.runs import MOST_PIECES, product_of_pieces

MOST_DEALS = 3
MOST_PHASES = 4
MOST_PHASES_OF_MOST = 2
MOST_CLEARS = 3
MOST_MOVES = 2
MOVES = ("fill", "renew", "drop")
ENDS = ("any", "done")


def is_number(value, many):
    """Tell whether the value is a number of one of so many deals."""
    return is_integer(value) and 0 <= value < many


def are_numbers(value, least, most, many):
    """Tell whether the value is a tuple of different numbers of so many deals, with no fewer and no more than told."""
    if not isinstance(value, tuple) or not least <= len(value) <= most:
        return False
    if not all([is_number(number, many) for number in value]):
        return False
    return len(set(value)) == len(value)


def is_word(value, words):
    """Tell whether the value is one of some words."""
    return isinstance(value, str) and value in words


def is_move(value, many):
    """Tell whether the value is a move between two of so many deals."""
    if not isinstance(value, tuple) or len(value) != 3 or not is_word(value[0], MOVES):
        return False
    return are_numbers(value[1:], 2, 2, many)


def is_phase(value, many, graves):
    """Tell whether the value is a phase of a plan with so many deals."""
    if not isinstance(value, tuple) or len(value) != 5:
        return False
    puts, looks, clears, moves, end = value
    if not are_numbers(puts, 1, 2, many) or not are_numbers(looks, 1, 2, many):
        return False
    if not are_numbers(clears, 0, 0 if graves else MOST_CLEARS, many):
        return False
    if not isinstance(moves, tuple) or len(moves) > MOST_MOVES or not all([is_move(move, many) for move in moves]):
        return False
    return is_word(end, ENDS)


def are_deals(value):
    """Tell whether the value is a tuple of deals as a plan has them."""
    if not isinstance(value, tuple) or not 1 <= len(value) <= MOST_DEALS:
        return False
    return all([is_deal(deal) for deal in value]) and product_of_pieces(value) <= MOST_PIECES


def is_plan(value):
    """Tell whether the value is a plan."""
    if not isinstance(value, tuple) or len(value) != 4:
        return False
    deals, phases, graves, lag = value
    if not are_deals(deals) or not isinstance(phases, tuple):
        return False
    if not isinstance(graves, bool) or not isinstance(lag, bool):
        return False
    most = MOST_PHASES_OF_MOST if len(deals) == MOST_DEALS else MOST_PHASES
    if not 1 <= len(phases) <= most:
        return False
    return all([is_phase(phase, len(deals), graves) for phase in phases])


def check_plan(plan):
    """Return None for a plan, raise InvalidPlan for anything else."""
    if not is_plan(plan):
        raise InvalidPlan("a plan is a tuple (deals, phases, graves, lag)")
