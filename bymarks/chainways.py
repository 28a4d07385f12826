"""The ways that things go in a chain, each with the classes of the marks that go it."""

from bymarks.classes import common_class, have_common
from bymarks.errors import TooMany

MOST_WAYS = 1000


def is_over(chain, steps, at):
    """Tell whether a thing that has taken these steps goes no further than the name at."""
    return at not in chain or at in [step[0] for step in steps]


def steps_on(chain, steps, at, classes):
    """Return the list of tuples (steps, name, classes): how things of these classes go on from the chooser at."""
    name, modulus, nexts = chain[at]
    known = classes.get(name, (1, 0))
    commons = [common_class(known, (modulus, i)) for i in range(modulus)]
    return [
        (steps + ((at, i),), nexts[i], {**classes, name: commons[i]})
        for i in range(modulus)
        if commons[i] is not None
    ]


def live_ways(chain, begin):
    """Return the list of tuples (way, classes) of all ways that some things go; raise TooMany for too many."""
    found = []
    waiting = [((), begin, {})]
    while waiting:
        steps, at, classes = waiting.pop()
        if is_over(chain, steps, at):
            found.append(((steps, at), classes))
        else:
            waiting = waiting + steps_on(chain, steps, at, classes)
        # Each of those that wait becomes one way or several.
        if len(found) + len(waiting) > MOST_WAYS:
            raise TooMany(f"things go more than {MOST_WAYS} ways")
    return found


def share_of_way(classes):
    """Return (1, whole): the share of the things that go the way of these classes."""
    whole = 1
    for one in classes.values():
        whole = whole * one[0]
    return 1, whole


def comings(ways):
    """Return a dict from each chooser to which things come to the dict of the steps that they take up to there."""
    found = {}
    for (steps, _), _ in ways:
        for k in range(len(steps)):
            chooser = steps[k][0]
            if chooser not in found:
                found[chooser] = {}
            found[chooser][steps[:k]] = True
    return found


def exits_taken(ways):
    """Return a dict of True for each exit that some things take."""
    return {step: True for (steps, _), _ in ways for step in steps}


def first_bar(chain, steps, chooser, i):
    """Return the least place in the steps of an exit that no mark takes together with the exit (chooser, i)."""
    name, modulus, _ = chain[chooser]
    for k in range(len(steps)):
        ahead, j = steps[k]
        if chain[ahead][0] == name and not have_common((chain[ahead][1], j), (modulus, i)):
            return k
    return None
