"""Which exits things take in a chain of which some choosers have a mark of their own.

Such a chain may have too many ways to go through. What can still be taken from a chooser depends only on
the choosers that a thing has come to and on what is known of those marks by which another one will choose.
"""

from bymarks.classes import common_class

EVERY = (1, 0)


def choosers_ahead(chain, begin):
    """Return the list of the choosers to which exits lead from begin on, begin included, whatever the marks are."""
    found = [begin]
    waiting = [begin]
    while waiting:
        chooser = waiting.pop()
        for name in chain[chooser][2]:
            if name in chain and name not in found:
                found.append(name)
                waiting.append(name)
    return found


def without_needless(known, chain, open_choosers):
    """Return the tuples (name, class) of what is known, but for the marks by which no open chooser chooses."""
    names = [chain[chooser][0] for chooser in open_choosers]
    return tuple([part for part in known if part[0] in names])


def class_known(known, name):
    """Return the class that is known of the mark of a name."""
    for part in known:
        if part[0] == name:
            return part[1]
    return EVERY


def choices(chain, own, at, known):
    """Return the list of tuples (i, known): the exits of the chooser at that can be taken, and what is known then."""
    name, modulus, _ = chain[at]
    if at in own:
        return [(i, known) for i in range(modulus)]
    ahead = class_known(known, name)
    others = [part for part in known if part[0] != name]
    commons = [common_class(ahead, (modulus, i)) for i in range(modulus)]
    return [
        (i, tuple(sorted(others + [(name, commons[i])])))
        for i in range(modulus)
        if commons[i] is not None
    ]


def states_behind(chain, own, state):
    """Return the list of tuples (i, state): the exits that can be taken in a state, and the state to which each leads.

    A state is (chooser, choosers, known): where a thing is, the ascending tuple of the choosers to which it
    did not come yet, and what is known of its marks. It is None where the thing comes to an end or a ring.
    """
    at, left, known = state
    rest = tuple([chooser for chooser in left if chooser != at])
    shared = [chooser for chooser in rest if chooser not in own]
    found = []
    for i, more in choices(chain, own, at, known):
        to = chain[at][2][i]
        if to in rest:
            found.append((i, (to, rest, without_needless(more, chain, shared))))
        else:
            found.append((i, None))
    return found


def starves(chain, begin, own):
    """Tell whether an exit is starved if the choosers own have marks of their own."""
    ahead = tuple(sorted(choosers_ahead(chain, begin)))
    many = sum([chain[chooser][1] for chooser in ahead])
    taken = {}
    first = (begin, ahead, ())
    seen = {first: True}
    waiting = [first]
    # If no exit is starved, things come to all choosers ahead and take all of their exits.
    while waiting and len(taken) < many:
        state = waiting.pop()
        for i, following in states_behind(chain, own, state):
            taken[state[0], i] = True
            if following is not None and following not in seen:
                seen[following] = True
                waiting.append(following)
    return len(taken) < many
