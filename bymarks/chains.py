"""Chains: choosers that send things on by remainders of their marks."""

from bymarks.chainstates import starves
from bymarks.chainways import comings, exits_taken, first_bar, is_over, live_ways, share_of_way
from bymarks.errors import InvalidBegin, InvalidChain
from bymarks.integers import is_integer
from bymarks.marks import check_marks
from bymarks.names import is_name
from bymarks.shares import total_of

MOST_CHOOSERS = 6
LEAST_MODULUS = 2
GREATEST_MODULUS = 6
MOST_MARKS = 4


def is_link(value):
    """Tell whether the value tells how a chooser chooses."""
    if not isinstance(value, tuple) or len(value) != 3:
        return False
    name, modulus, nexts = value
    if not is_name(name) or not is_integer(modulus) or not LEAST_MODULUS <= modulus <= GREATEST_MODULUS:
        return False
    return isinstance(nexts, tuple) and len(nexts) == modulus and all([is_name(to) for to in nexts])


def mark_names(chain):
    """Return the ascending list of the names of the marks of a chain."""
    return sorted(set([link[0] for link in chain.values()]))


def is_chain(value):
    """Tell whether the value is a chain."""
    if not isinstance(value, dict) or not 1 <= len(value) <= MOST_CHOOSERS:
        return False
    if not all([is_name(chooser) and is_link(link) for chooser, link in value.items()]):
        return False
    return len(mark_names(value)) <= MOST_MARKS


def check_chain(chain):
    """Return None for a chain, raise InvalidChain for anything else."""
    if not is_chain(chain):
        raise InvalidChain("a chain is a dict from up to 6 names to tuples (name, m, nexts)")


def check_begin(chain, begin):
    """Raise InvalidChain if the chain is none, then InvalidBegin if begin is no chooser of it."""
    check_chain(chain)
    if not isinstance(begin, str) or begin not in chain:
        raise InvalidBegin("begin is not one of the choosers")


def walk(chain, begin, marks):
    """Return the way of a thing with these marks."""
    check_begin(chain, begin)
    check_marks(marks, mark_names(chain))
    steps = ()
    at = begin
    while not is_over(chain, steps, at):
        name, modulus, nexts = chain[at]
        i = marks[name] % modulus
        steps = steps + ((at, i),)
        at = nexts[i]
    return steps, at


def ways(chain, begin):
    """Return the ascending list of tuples (way, classes) for all ways that some things go."""
    check_begin(chain, begin)
    table = {way: classes for way, classes in live_ways(chain, begin)}
    return [(way, table[way]) for way in sorted(table)]


def ends(chain, begin):
    """Return a dict from each end that some things come to to its share."""
    check_begin(chain, begin)
    parts = {}
    for (_, last), classes in live_ways(chain, begin):
        if last not in chain:
            parts[last] = parts.get(last, []) + [share_of_way(classes)]
    return {last: total_of(shares) for last, shares in parts.items()}


def ring_share(chain, begin):
    """Return the share of the things that come to a chooser again."""
    check_begin(chain, begin)
    return total_of([share_of_way(classes) for (_, last), classes in live_ways(chain, begin) if last in chain])


def starved(chain, begin):
    """Return a dict from each starved exit to the ascending list of tuples (steps, k) that tell what bars it."""
    check_begin(chain, begin)
    told = live_ways(chain, begin)
    taken = exits_taken(told)
    found = {}
    for chooser, table in comings(told).items():
        for i in range(chain[chooser][1]):
            if (chooser, i) not in taken:
                found[chooser, i] = [(steps, first_bar(chain, steps, chooser, i)) for steps in sorted(table)]
    return found


def lists_of(choosers, many):
    """Return the list of all lists of so many of the choosers, in their order; these lists ascend as choosers do."""
    if many == 0:
        return [[]]
    return [
        [choosers[k]] + rest
        for k in range(len(choosers))
        for rest in lists_of(choosers[k + 1:], many - 1)
    ]


def own_marks(chain, begin):
    """Return the least of the shortest lists of choosers by whose own marks no exit is starved."""
    check_begin(chain, begin)
    live_ways(chain, begin)
    choosers = sorted(chain)
    lists = [own for many in range(len(choosers)) for own in lists_of(choosers, many)]
    # If all choosers have marks of their own nothing is starved, so that list needs no look.
    for own in lists:
        if not starves(chain, begin, own):
            return own
    return choosers
