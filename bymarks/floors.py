"""Sums of quotients that are rounded down."""

from bymarks.errors import InvalidNumber
from bymarks.integers import is_integer

GREATEST = 10 ** 40


def sums_of_turn(turn, inner):
    """Return the three sums of a turn (count, step, begin, by), inner being those of the next one."""
    count, step, begin, by = turn
    times, rest = step // by, step % by
    more, left = begin // by, begin % by
    last = count - 1
    top = (rest * last + left) // by
    firsts = last * count // 2
    squares = firsts * (2 * last + 1) // 3
    # With the remainders alone, the quotients rise from 0 to top; the next turn counts where each one begins.
    plain = last * top - inner[0]
    by_place = (top * last * count - inner[2] - inner[0]) // 2
    squared = last * top * (top + 1) - 2 * inner[1] - 2 * inner[0] - plain
    return (
        times * firsts + more * count + plain,
        times * squares + more * firsts + by_place,
        times * times * squares + 2 * times * more * firsts + more * more * count
        + 2 * more * plain + 2 * times * by_place + squared,
    )


def floor_sums(count, step, begin, by):
    """Return what sums returns, for integers of any size."""
    turns = []
    while count > 0:
        turns.append((count, step, begin, by))
        top = (step % by * (count - 1) + begin % by) // by
        # Quotients and numbers change their parts, so that the numbers become small as they do for divisors.
        count, step, begin, by = top, by, by - begin % by - 1, step % by
    found = (0, 0, 0)
    for turn in reversed(list(turns)):
        found = sums_of_turn(turn, found)
    return found


def sums(count, step, begin, by):
    """Return the sums of f, k * f and f * f for k from 0 to count - 1, f being (step * k + begin) // by."""
    for number, least in ((count, 0), (step, 0), (begin, 0), (by, 1)):
        if not is_integer(number) or not least <= number <= GREATEST:
            raise InvalidNumber("the numbers are integers from 0, by from 1 on, of a limited size")
    return floor_sums(count, step, begin, by)
