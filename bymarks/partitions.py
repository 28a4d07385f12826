"""Partitions of the numbers 0, 1, .. of deals: tuples of groups, ordered by their first numbers."""

from bymarks.integers import is_integer


def partitions_of(many):
    """Return the list of all partitions of so many numbers."""
    if many == 0:
        return [()]
    number = many - 1
    found = []
    for groups in partitions_of(number):
        for k in range(len(groups)):
            found.append(groups[:k] + (groups[k] + (number,),) + groups[k + 1:])
        found.append(groups + ((number,),))
    return found


def partition_by(values):
    """Return the partition of the places of a list by the values that stand there."""
    groups = {}
    for number in range(len(values)):
        groups[values[number]] = groups.get(values[number], ()) + (number,)
    return tuple(groups.values())


def is_group(value):
    """Tell whether the value is a tuple of integers."""
    return isinstance(value, tuple) and all([is_integer(number) for number in value])


def is_partition(value, many):
    """Tell whether the value is a partition of so many numbers."""
    if not isinstance(value, tuple) or not all([is_group(group) for group in value]):
        return False
    return value in partitions_of(many)


def factor_of_merging(choice):
    """Return by which factor a partition counts for one whose groups it merges as this partition of them tells."""
    factor = 1
    for groups in choice:
        for k in range(1, len(groups)):
            factor = -factor * k
    return factor


def merged(pattern, groups):
    """Return the numbers of some groups of a partition in one group."""
    return tuple(sorted([number for group in groups for number in pattern[group]]))


def mergings(pattern):
    """Return the list of tuples (factor, partition): this partition, and all that merge groups of it.

    Where the deals in each group of a partition agree, a mark has this partition or one that merges groups of
    it. Marks that have just this one are counted by adding up, with the factors, how many there are of such.
    """
    return [
        (factor_of_merging(choice), tuple([merged(pattern, groups) for groups in choice]))
        for choice in partitions_of(len(pattern))
    ]
