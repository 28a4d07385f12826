"""Histories of a plan: what can be done, what reads tell, and the shortest ones with a wrong read."""

from bymarks.deals import place_of_mark
from bymarks.errors import InvalidHistory, InvalidNumber
from bymarks.hunts import shortest_wrong
from bymarks.integers import is_natural
from bymarks.marks import check_mark
from bymarks.partitions import partition_by
from bymarks.patterns import below_pattern, patterns
from bymarks.plans import check_plan
from bymarks.shares import total_of
from bymarks.stores import Course, deeds_behind, first_state, is_value, is_wrong, since_read, state_after


def course_of(plan, mark):
    """Return the course for things of this mark; the errors are those of all functions that take a plan and a mark."""
    check_plan(plan)
    check_mark(mark)
    return Course(plan, partition_by([place_of_mark(deal, mark) for deal in plan[0]]))


def is_one_of(value, allowed):
    """Tell whether the value is one of the deeds that are allowed."""
    # Booleans are equal to integers, but they are no numbers.
    return isinstance(value, tuple) and not any([isinstance(part, bool) for part in value]) and value in allowed


def steps_of(course, history):
    """Return the list of tuples (state, told): the states behind the deeds, each with what a read found that ends.

    The first one is the state ahead of all deeds. InvalidHistory is raised for what is no history.
    """
    if not isinstance(history, list):
        raise InvalidHistory("a history is a list of deeds")
    state = first_state(course)
    found = [(state, None)]
    for deed in history:
        if not is_one_of(deed, deeds_behind(course, state)):
            raise InvalidHistory("a deed of the history is not allowed there")
        state, told = state_after(course, state, deed)
        found.append((state, told))
    return found


def deeds(plan, mark, history):
    """Return the list of the deeds that are allowed behind the history."""
    course = course_of(plan, mark)
    return deeds_behind(course, steps_of(course, history)[-1][0])


def shown(content):
    """Return what a place holds, as a tuple."""
    if content == 0:
        return ("nothing",)
    return ("value" if is_value(content) else "grave", content // 2)


def answer(content):
    """Return what a read tells that found this, or None if it has found nothing yet."""
    if content is None:
        return None
    return shown(content) if is_value(content) else ("none",)


def play(plan, mark, history):
    """Return the list of tuples (told, held): what is told with each deed, and what the places hold behind it."""
    course = course_of(plan, mark)
    return [
        (answer(told), tuple([shown(state[1][place]) for place in course.places]))
        for state, told in steps_of(course, history)[1:]
    ]


def word_of_wrong(history, state, told):
    """Return the word of a wrong read that ends behind this state, to which the history led."""
    if not is_value(told):
        return "missed"
    writes = [deed[0] for deed in history if deed[0] in ("put", "take")]
    return "stale" if writes[since_read(state) - 1] == "put" else "ghost"


def first_wrong_of(course, history):
    """Return (k, kind): the number of the first deed with which a wrong read ends, and its word; or None."""
    steps = steps_of(course, history)
    for k in range(len(history)):
        state, told = steps[k][0], steps[k + 1][1]
        if told is not None and is_wrong(state, told):
            return k, word_of_wrong(history, state, told)
    return None


def judge(plan, mark, history):
    """Return (k, kind): the number of the first deed with which a wrong read ends, and its word; or None."""
    return first_wrong_of(course_of(plan, mark), history)


def patterns_of(plan):
    """Return the list of tuples (pattern, share, mark) of the plan's deals; InvalidPlan is raised for what is none."""
    check_plan(plan)
    return patterns(list(plan[0]))


def place_patterns(plan):
    """Return the list of tuples (pattern, mark) of the patterns that some marks have, by their least marks."""
    return [(pattern, mark) for pattern, _, mark in patterns_of(plan)]


def wrong_of(plan, pattern):
    """Return (history, kind) for the marks of a pattern: the least of the shortest wrong histories; or None."""
    course = Course(plan, pattern)
    history = shortest_wrong(course)
    return None if history is None else (history, first_wrong_of(course, history)[1])


def verdict(plan):
    """Return (mark, history, kind): the shortest history with a wrong read, and its least mark; or None."""
    best = None
    for pattern, mark in place_patterns(plan):
        wrong = wrong_of(plan, pattern)
        if wrong is not None and (best is None or len(wrong[0]) < len(best[1])):
            best = (mark,) + wrong
    return best


def verdicts(plan):
    """Return the list of tuples (pattern, share, mark, wrong) of all patterns, by their least marks."""
    return [(pattern, share, mark, wrong_of(plan, pattern)) for pattern, share, mark in patterns_of(plan)]


def wrong_share(plan):
    """Return the share of the marks for which some history has a wrong read."""
    return total_of([share for _, share, _, wrong in verdicts(plan) if wrong is not None])


def wrong_below(plan, n):
    """Return how many of the marks for which some history has a wrong read are less than n."""
    check_plan(plan)
    if not is_natural(n):
        raise InvalidNumber("n is an integer from 0 on")
    wrong = [pattern for pattern, _, _, told in verdicts(plan) if told is not None]
    return sum([below_pattern(list(plan[0]), pattern, n) for pattern in wrong])
