"""Patterns of agreement: which of several deals tell the same place of a mark."""

from bymarks.deals import place_of_mark
from bymarks.errors import InvalidNumber, InvalidPattern, TooMany
from bymarks.families import family_of
from bymarks.familysums import below_of_sum, nth_of_sum, share_of_sum
from bymarks.integers import is_natural
from bymarks.marks import check_mark
from bymarks.partitions import is_partition, mergings, partition_by, partitions_of
from bymarks.runs import check_deals, product_of_pieces

MOST_DEALS = 4
GREATEST_OF_MOST = 10 ** 12
MOST_PIECES_OF_MOST = 4


def check_to_count(deals):
    """Raise the errors of the functions that count the marks of patterns."""
    check_deals(deals, MOST_DEALS)
    if len(deals) == MOST_DEALS:
        if any([deal[0] > GREATEST_OF_MOST for deal in deals]) or product_of_pieces(deals) > MOST_PIECES_OF_MOST:
            raise TooMany(f"{MOST_DEALS} deals have too great periods or too many pieces")


def check_pattern(deals, pattern):
    """Raise the errors of the functions that take deals and a pattern of them."""
    check_to_count(deals)
    if not is_partition(pattern, len(deals)):
        raise InvalidPattern("a pattern is a tuple of ascending tuples, ordered by their first numbers")


def families_by_group(deals):
    """Return a dict from all groups of two or more deals to the families on which these agree."""
    found = {}
    for pattern in partitions_of(len(deals)):
        for group in pattern:
            if len(group) > 1 and group not in found:
                found[group] = family_of([deals[number] for number in group])
    return found


def sum_of_pattern(pattern, table):
    """Return the sum of families that tells the marks of a pattern, the table being that of all groups."""
    return [
        (factor, [table[group] for group in groups if len(group) > 1]) for factor, groups in mergings(pattern)
    ]


def pattern_of(deals, mark):
    """Return the pattern of the mark."""
    check_deals(deals, MOST_DEALS)
    check_mark(mark)
    return partition_by([place_of_mark(deal, mark) for deal in deals])


def patterns(deals):
    """Return the list of tuples (pattern, share, mark) of the patterns that some marks have, by their least marks."""
    check_to_count(deals)
    table = families_by_group(deals)
    found = []
    for pattern in partitions_of(len(deals)):
        parts = sum_of_pattern(pattern, table)
        share = share_of_sum(parts)
        if share[0] > 0:
            found.append((nth_of_sum(parts, 0), pattern, share))
    return [(pattern, share, mark) for mark, pattern, share in sorted(found)]


def below_pattern(deals, pattern, bound):
    """Return how many marks that are less than the bound have the pattern."""
    check_pattern(deals, pattern)
    if not is_natural(bound):
        raise InvalidNumber("a bound is an integer from 0 on")
    return below_of_sum(sum_of_pattern(pattern, families_by_group(deals)), bound)


def nth_pattern(deals, pattern, number):
    """Return the mark that has the pattern and ahead of which number others have it."""
    check_pattern(deals, pattern)
    if not is_natural(number):
        raise InvalidNumber("the number of marks ahead is an integer from 0 on")
    parts = sum_of_pattern(pattern, families_by_group(deals))
    if share_of_sum(parts)[0] == 0:
        raise InvalidNumber("no mark has the pattern")
    return nth_of_sum(parts, number)
