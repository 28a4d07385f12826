"""What can be left out of a plan that is right, and where it can be loosened."""

from bymarks.errors import InvalidItem, NotRight, TooMany
from bymarks.integers import is_integer
from bymarks.plans import check_plan
from bymarks.search import verdict

MOST_ITEMS = 8
# At which number of a phase each list stands, and how many have to stay in it.
LISTS = {"put": 0, "look": 1, "clear": 2, "move": 3}
LEASTS = {"put": 1, "look": 1, "clear": 0, "move": 0}


def with_part(phase, at, part):
    """Return the phase with another part number at."""
    return phase[:at] + (part,) + phase[at + 1:]


def with_phase(plan, n, phase):
    """Return the plan with another phase number n."""
    deals, phases, graves, lag = plan
    return deals, phases[:n] + (phase,) + phases[n + 1:], graves, lag


def is_item(plan, item):
    """Tell whether the value is an item of the plan that can be left out."""
    if not isinstance(item, tuple) or len(item) != 3:
        return False
    word, n, i = item
    if not isinstance(word, str) or word not in LISTS or not is_integer(n) or not is_integer(i):
        return False
    if not 0 <= n < len(plan[1]):
        return False
    many = len(plan[1][n][LISTS[word]])
    return 0 <= i < many and many > LEASTS[word]


def left_without(plan, item):
    """Return the plan without an item."""
    word, n, i = item
    phase, at = plan[1][n], LISTS[word]
    return with_phase(plan, n, with_part(phase, at, phase[at][:i] + phase[at][i + 1:]))


def without(plan, item):
    """Return the plan without the item."""
    check_plan(plan)
    if not is_item(plan, item):
        raise InvalidItem("the plan has no such item, or its list would be empty")
    return left_without(plan, item)


def items_of(plan):
    """Return the list of the items that can be left out, in their order."""
    found = [
        (word, n, i)
        for n in range(len(plan[1]))
        for word in LISTS
        for i in range(len(plan[1][n][LISTS[word]]))
    ]
    return [item for item in found if is_item(plan, item)]


def check_right(plan):
    """Raise the errors of the functions that tell about a right plan."""
    check_plan(plan)
    if len(items_of(plan)) > MOST_ITEMS:
        raise TooMany(f"more than {MOST_ITEMS} items can be left out")
    if verdict(plan) is not None:
        raise NotRight("in some history a read is wrong")


def needless(plan):
    """Return the list of the items without each of which alone the plan is right, too."""
    check_right(plan)
    return [item for item in items_of(plan) if verdict(left_without(plan, item)) is None]


def loosened(plan, n):
    """Return the plan with the end "any" of the phase number n."""
    return with_phase(plan, n, with_part(plan[1][n], 4, "any"))


def weakest(plan):
    """Return the ascending list of the phases whose end "done" can be "any", each by itself, in a right plan."""
    check_right(plan)
    waiting = [n for n in range(len(plan[1])) if plan[1][n][4] == "done"]
    return [n for n in waiting if verdict(loosened(plan, n)) is None]
