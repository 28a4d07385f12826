"""Stores: what the deeds of a plan do with one thing.

Deals that tell the same place of the thing share it, so places are told by the groups of its pattern.
What a place holds is told by a number: 0 for nothing, 2 * w for the value of the write number w, and
2 * w + 1 for its grave. So of two places the one with the elder write, or with nothing, has the less number.

A state is a tuple (stage, cells, write, read, writes, take):
- stage is (phase, mixed, counted), counted telling by its bits which moves count for the phase's end;
- cells is the tuple of what the places hold;
- write is (n, left, kind) for a put or take of the phase n that is under way, left being the places that
  are left of its list, and None if there is none;
- read is (n, left, since) likewise, since being the youngest write that was finished ahead of it;
- writes is how many writes began, take the youngest take among them, 0 if there is none.
"""


class Course:
    """What the phases of a plan do with the things that have one pattern."""

    def __init__(self, plan, pattern):
        deals, phases, graves, lag = plan
        groups = {number: k for k, group in enumerate(pattern) for number in group}
        self.graves = graves
        self.lag = lag
        self.places = [groups[number] for number in range(len(deals))]
        self.puts = [[groups[number] for number in phase[0]] for phase in phases]
        self.looks = [[groups[number] for number in phase[1]] for phase in phases]
        self.clears = [[groups[number] for number in phase[2]] for phase in phases]
        self.moves = [[(word, groups[i], groups[j]) for word, i, j in phase[3]] for phase in phases]
        self.ends = [phase[4] for phase in phases]


def first_state(course):
    """Return the state ahead of all deeds."""
    return (0, False, 0), (0,) * (max(course.places) + 1), None, None, 0, 0


def phases_to_begin(stage):
    """Return the list of the phases by whose lists writes and reads may begin."""
    phase, mixed, _ = stage
    return [phase - 1, phase] if mixed else [phase]


def may_leave(state):
    """Tell whether nothing is under way that began ahead of a phase that is mixed."""
    (phase, mixed, _), _, write, read, _, _ = state
    return mixed and (write is None or write[0] == phase) and (read is None or read[0] == phase)


def may_go_on(course, state):
    """Tell whether the next phase may begin."""
    (phase, mixed, counted), _, write, read, _, _ = state
    if mixed or phase + 1 == len(course.ends):
        return False
    if not course.lag and (write is not None or read is not None):
        return False
    return course.ends[phase] == "any" or counted + 1 == 1 << len(course.moves[phase])


def deeds_behind(course, state):
    """Return the list of the deeds that are allowed in a state, in their order."""
    stage, _, write, read, _, _ = state
    begins = phases_to_begin(stage)
    if write is None:
        found = [("put", n) for n in begins] + [("take", n) for n in begins]
    else:
        found = [("on",)]
    found.extend([("read", n) for n in begins] if read is None else [("look",)])
    found.extend([("move", k) for k in range(len(course.moves[stage[0]]))])
    if may_leave(state):
        found.append(("leave",))
    if may_go_on(course, state):
        found.append(("next",))
    return found


def with_cell(cells, at, content):
    """Return the cells with another content of one of them."""
    return cells[:at] + (content,) + cells[at + 1:]


def list_of_write(course, kind, n):
    """Return the list of the places to which a put or a take of the phase n goes."""
    return course.puts[n] if kind == "put" or course.graves else course.clears[n]


def content_of_write(course, kind, number):
    """Return what a put or a take leaves at its places."""
    if kind == "put":
        return 2 * number
    return 2 * number + 1 if course.graves else 0


def written_on(course, state, write):
    """Return the state when a write has done the same for the next place that is left of its list."""
    stage, cells, _, read, writes, take = state
    n, left, kind = write
    if left:
        cells = with_cell(cells, left[0], content_of_write(course, kind, writes))
    following = (n, left[1:], kind) if len(left) > 1 else None
    return stage, cells, following, read, writes, take


def written(course, state, kind, n):
    """Return the state when a put or a take of the phase n begins."""
    stage, cells, write, read, writes, take = state
    number = writes + 1
    begun = (stage, cells, write, read, number, number if kind == "take" else take)
    return written_on(course, begun, (n, tuple(list_of_write(course, kind, n)), kind))


def finished_writes(state):
    """Return how many writes are finished."""
    return state[4] if state[2] is None else state[4] - 1


def looked(state, read):
    """Return (state, told) when a read looks at the next place that is left of its list.

    What is told is None if the read goes on, otherwise what it found.
    """
    stage, cells, write, _, writes, take = state
    n, left, since = read
    content = cells[left[0]]
    if content == 0 and len(left) > 1:
        return (stage, cells, write, (n, left[1:], since), writes, take), None
    return (stage, cells, write, None, writes, take), content


def cells_moved(cells, move):
    """Return the cells when a move is done."""
    word, i, j = move
    if word == "drop":
        return with_cell(cells, i, 0) if i != j and cells[i] == cells[j] else cells
    if cells[j] == 0 or word == "renew" and cells[j] < cells[i]:
        return with_cell(cells, j, cells[i])
    return cells


def moved(course, state, k):
    """Return the state when the move number k of the phase is done."""
    (phase, mixed, counted), cells, write, read, writes, take = state
    # Where nothing waits for the moves they are not counted, so that fewer states differ.
    if course.ends[phase] == "done" and not mixed:
        counted = counted | 1 << k
    return (phase, mixed, counted), cells_moved(cells, course.moves[phase][k]), write, read, writes, take


def staged(course, state, deed):
    """Return the state when users leave the phase ahead, or the next phase begins."""
    phase, _, _ = state[0]
    stage = (phase, False, 0) if deed[0] == "leave" else (phase + 1, course.lag, 0)
    return (stage,) + state[1:]


def state_after(course, state, deed):
    """Return (state, told) for a deed that is allowed: told is what the read found that ends with it, else None."""
    kind = deed[0]
    if kind == "read":
        return looked(state, (deed[1], tuple(course.looks[deed[1]]), finished_writes(state)))
    if kind == "look":
        return looked(state, state[3])
    if kind == "put" or kind == "take":
        return written(course, state, kind, deed[1]), None
    if kind == "on":
        return written_on(course, state, state[2]), None
    if kind == "move":
        return moved(course, state, deed[1]), None
    return staged(course, state, deed), None


def since_read(state):
    """Return the youngest write that was finished ahead of the read that is under way, or that would begin now."""
    return finished_writes(state) if state[3] is None else state[3][2]


def is_value(content):
    """Tell whether a place that holds this holds a value."""
    return content > 0 and content & 1 == 0


def is_wrong(state, told):
    """Tell whether a read is wrong that ends behind a state and found what is told."""
    if is_value(told):
        return told // 2 < since_read(state)
    return state[5] < since_read(state)
