"""Rules: they tell a place by the marks of a thing, each of which has a name."""

from bymarks.cells import every_cell, first_marks, least_in_both, least_marks
from bymarks.classes import is_class, lies_in
from bymarks.errors import InvalidRule, TooMany
from bymarks.integers import is_integer, is_natural
from bymarks.marks import check_marks
from bymarks.names import is_name
from bymarks.ruleways import boxes_by_place, cells_down, common_count, shared_moduli, weighed
from bymarks.shares import fraction, total_of

SIZES = {"place": 2, "if": 6, "split": 4}
GREATEST = (10 ** 60) ** 5
LEAST_SPLIT = 2
GREATEST_SPLIT = 12
MOST_PLACES = 40
MOST_LEVELS = 8
MOST_NAMES = 2
MOST_IFS = 4


def is_split(parts):
    """Tell whether the modulus and the rules of a split are some, if what stands at the places of the rules is."""
    modulus, rules = parts
    if not is_integer(modulus) or not LEAST_SPLIT <= modulus <= GREATEST_SPLIT:
        return False
    return isinstance(rules, tuple) and len(rules) == modulus


def has_form(value):
    """Tell whether the value is a rule, if what stands at the places of its inner rules is."""
    if not isinstance(value, tuple) or len(value) == 0 or not isinstance(value[0], str):
        return False
    if len(value) != SIZES.get(value[0], 0):
        return False
    if value[0] == "place":
        return is_natural(value[1]) and value[1] <= GREATEST
    if not is_name(value[1]):
        return False
    if value[0] == "split":
        return is_split(value[2:])
    return is_class(value[2:4]) and value[2] <= GREATEST


def inner_rules(rule):
    """Return the tuple of the rules that stand in a rule, but not within others of them."""
    # Of a place, which is shorter than an if, nothing is left.
    return rule[3] if rule[0] == "split" else rule[4:]


def is_rule(value):
    """Tell whether the value is a rule."""
    waiting = [(value, 1, 0)]
    names = {}
    places = 0
    while waiting:
        part, level, ifs_ahead = waiting.pop()
        if not has_form(part):
            return False
        ifs = ifs_ahead + 1 if part[0] == "if" else ifs_ahead
        if part[0] == "place":
            places += 1
        else:
            names[part[1]] = True
        if level > MOST_LEVELS or ifs > MOST_IFS or places > MOST_PLACES or len(names) > MOST_NAMES:
            return False
        for inner in inner_rules(part):
            waiting.append((inner, level + 1, ifs))
    return True


def check_rule(rule):
    """Return None for a rule, raise InvalidRule for anything else."""
    if not is_rule(rule):
        raise InvalidRule("a rule is a place, an if or a split, of a limited size")


def name_places(rule):
    """Return the list of the names that stand in a rule, one that stands there twice also twice."""
    names = [] if rule[0] == "place" else [rule[1]]
    return names + [name for inner in inner_rules(rule) for name in name_places(inner)]


def names_in(rule):
    """Return the ascending list of the names of the rule."""
    check_rule(rule)
    return sorted(set(name_places(rule)))


def place_by(rule, marks):
    """Return the place that the rule tells by the marks."""
    check_marks(marks, names_in(rule))
    while rule[0] != "place":
        mark = marks[rule[1]]
        if rule[0] == "split":
            rule = rule[3][mark % rule[2]]
        else:
            rule = rule[4] if lies_in(mark, rule[2:4]) else rule[5]
    return rule[1]


def names_of_both(one, other):
    """Return the ascending list of the names of two rules; the errors are those of all functions of two rules."""
    names = sorted(set(names_in(one) + names_in(other)))
    if len(names) > MOST_NAMES:
        raise TooMany(f"at most {MOST_NAMES} different names can be looked at")
    return names


def least_of_cells(cells):
    """Return the least of the least marks of the cells, or None."""
    best = None
    for cell in cells:
        if best is None or first_marks(cell) < best:
            marks = least_marks(cell)
            if marks is not None and (best is None or marks < best):
                best = marks
    return best


def by_names(names, marks):
    """Return the marks as a dict from the names, or None if there are none."""
    return None if marks is None else dict(zip(names, marks))


def rule_parting(one, other):
    """Return the least marks for which the places of the rules differ, or None."""
    names = names_of_both(one, other)
    cells = [
        both
        for place, cell in cells_down(one, names, every_cell(len(names)))
        for further, both in cells_down(other, names, cell)
        if further != place
    ]
    return by_names(names, least_of_cells(cells))


def reaches(rule, place):
    """Return the least marks for which the rule tells this place, or None."""
    names = names_in(rule)
    if not is_natural(place):
        return None
    ways = cells_down(rule, names, every_cell(len(names)))
    return by_names(names, least_of_cells([cell for told, cell in ways if told == place]))


def marks_for_both(one, other, at):
    """Return marks of a thing that goes the one way, and with another mark number at the other way, or None.

    A way is a tuple (place, cell, marks), marks being the least ones of the cell.
    """
    found = ()
    for k in range(len(one[2])):
        mark = one[2][k] if k == at else least_in_both(one[1][k], other[1][k])
        if mark is None:
            return None
        found = found + (mark,)
    return found


def need_of(ways, at):
    """Return (marks, mark): marks of a thing, and another mark number at that changes its place; or None."""
    for i in range(len(ways)):
        for other in ways[i + 1:]:
            if ways[i][0] != other[0]:
                marks = marks_for_both(ways[i], other, at)
                if marks is not None:
                    return marks, other[2][at]
    return None


def needs(rule):
    """Return a dict from each name whose mark is needed to marks, and another mark by which the place changes."""
    names = names_in(rule)
    ways = [(place, cell, least_marks(cell)) for place, cell in cells_down(rule, names, every_cell(len(names)))]
    real = [way for way in ways if way[2] is not None]
    found = {}
    for at in range(len(names)):
        need = need_of(real, at)
        if need is not None:
            found[names[at]] = (by_names(names, need[0]), need[1])
    return found


def rule_shares(rule):
    """Return a dict from each place that some marks tell to its share."""
    found = {}
    for place, boxes in boxes_by_place(rule, names_in(rule)).items():
        whole, rows = weighed(boxes)
        count = sum([weight for weight, _ in rows])
        if count > 0:
            found[place] = fraction(count, whole)
    return found


def flow_tables(one, other):
    """Return (rows, others, shared): the weighed boxes by the places of each rule, and the divisors of their moduli."""
    names = names_of_both(one, other)
    places, furthers = boxes_by_place(one, names), boxes_by_place(other, names)
    rows = {place: weighed(boxes) for place, boxes in places.items()}
    others = {place: weighed(boxes) for place, boxes in furthers.items()}
    return rows, others, shared_moduli(places, furthers)


def rule_flow(one, other):
    """Return a dict from each tuple of places that some marks tell by the rules to its share."""
    rows, others, shared = flow_tables(one, other)
    found = {}
    for place, (whole, boxes) in rows.items():
        for further, (more, inner) in others.items():
            count = common_count(boxes, inner, shared)
            if count > 0:
                found[place, further] = fraction(count, whole * more)
    return found


def rule_moved(one, other):
    """Return the share of the marks whose place differs."""
    rows, others, shared = flow_tables(one, other)
    kept = [
        (common_count(boxes, others[place][1], shared), whole * others[place][0])
        for place, (whole, boxes) in rows.items()
        if place in others
    ]
    share = total_of(kept)
    return share[1] - share[0], share[1]
