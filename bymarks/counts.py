"""Counting the marks that lie in one family or in two."""

from bymarks.errors import InvalidFamilies, InvalidNumber, TooMany
from bymarks.integers import is_integer, is_natural
from bymarks.familysums import below_of_sum, nth_of_sum, share_of_sum

GREATEST_PERIOD = 10 ** 60
MOST_FAMILIES = 2
MOST_RUNS = 64
MOST_PAIRS = 64
MOST_PAIRS_OF_NTH = 4


def is_run(value):
    """Tell whether the value is a run of some family."""
    return isinstance(value, tuple) and len(value) == 2 and is_integer(value[0]) and is_integer(value[1])


def is_family(value):
    """Tell whether the value is a family of a size that can be counted."""
    if not isinstance(value, tuple) or len(value) != 2:
        return False
    period, runs = value
    if not is_integer(period) or not 1 <= period <= GREATEST_PERIOD:
        return False
    if not isinstance(runs, tuple) or len(runs) > MOST_RUNS or not all([is_run(run) for run in runs]):
        return False
    ends = [-1] + [end for _, end in runs]
    return ends[-1] <= period and all([ahead < run[0] < run[1] for ahead, run in zip(ends, runs)])


def check_families(families, most):
    """Raise the errors of all functions that count, most being the greatest number of pairs of runs."""
    if not isinstance(families, list) or not 1 <= len(families) <= MOST_FAMILIES:
        raise InvalidFamilies("a list of one or two families is needed")
    if not all([is_family(family) for family in families]):
        raise InvalidFamilies("a family is a tuple (period, runs) of a limited size")
    if len(families) == 2 and len(families[0][1]) * len(families[1][1]) > most:
        raise TooMany(f"the numbers of runs, multiplied, are more than {most}")


def below(families, bound):
    """Return how many marks that are less than the bound lie in all of the families."""
    check_families(families, MOST_PAIRS)
    if not is_natural(bound):
        raise InvalidNumber("a bound is an integer from 0 on")
    return below_of_sum([(1, families)], bound)


def nth(families, number):
    """Return the mark that lies in all of the families and ahead of which number others do."""
    check_families(families, MOST_PAIRS_OF_NTH)
    if not is_natural(number):
        raise InvalidNumber("the number of marks ahead is an integer from 0 on")
    if common_share(families)[0] == 0:
        raise InvalidNumber("no mark lies in all of the families")
    return nth_of_sum([(1, families)], number)


def common_share(families):
    """Return the share of the marks that lie in all of the families."""
    check_families(families, MOST_PAIRS)
    return share_of_sum([(1, families)])
