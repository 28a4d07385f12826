"""Hunts for the shortest history with a wrong read, for the things of one pattern."""

from bymarks.stores import deeds_behind, finished_writes, first_state, is_wrong, since_read, state_after


def renumbered(state):
    """Return the state with its writes numbered anew from 1 on, in their order, as far as they still matter.

    What can happen behind a state, and which reads are wrong then, depends only on the order of the writes of
    which places hold something, of the one since which a read is right, of the youngest one that is finished,
    and of the youngest one; and on a take that is fit. So states that are equal now need to be looked at once.
    """
    stage, cells, write, read, writes, take = state
    since = since_read(state)
    fit = [take] if take >= since else []
    held = [content // 2 for content in cells if content > 0]
    numbers = sorted(set(held + [since, finished_writes(state), writes] + fit))
    ranks = {number: k for k, number in enumerate(numbers, start=1)}
    kept = tuple([2 * ranks[content // 2] + content % 2 if content > 0 else 0 for content in cells])
    if read is not None:
        read = (read[0], read[1], ranks[since])
    return stage, kept, write, read, ranks[writes], ranks[take] if fit else 0


def history_to(steps, k):
    """Return the list of the deeds that lead to the step number k, each step telling the one ahead of it."""
    found = []
    while k > 0:
        k, deed = steps[k]
        found.append(deed)
    found.reverse()
    return found


def shortest_wrong(course):
    """Return the least of the shortest histories that end with a wrong read, or None.

    States are come to by rising numbers of deeds, and among these by ascending histories. So the first
    history that leads to a state is the least of the shortest ones, and others need not be followed.
    """
    first = renumbered(first_state(course))
    states = [first]
    steps = [(0, ())]
    seen = {first: True}
    at = 0
    while at < len(states):
        for deed in deeds_behind(course, states[at]):
            state, told = state_after(course, states[at], deed)
            if told is not None and is_wrong(states[at], told):
                return history_to(steps, at) + [deed]
            following = renumbered(state)
            if following not in seen:
                seen[following] = True
                states.append(following)
                steps.append((at, deed))
        at += 1
    return None
