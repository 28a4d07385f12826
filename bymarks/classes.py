"""Classes: a class (m, r) stands for the marks h with h % m == r."""

from math import gcd

from bymarks.errors import InvalidClass
from bymarks.integers import inverse, is_integer

MOST_TO_MEET = 40
MOST_TO_LEAVE = 10


def is_class(value):
    """Tell whether the value is a class."""
    if not isinstance(value, tuple) or len(value) != 2:
        return False
    modulus, remainder = value
    return is_integer(modulus) and is_integer(remainder) and 0 <= remainder < modulus


def check_class(value):
    """Return None for a class, raise InvalidClass for anything else."""
    if not is_class(value):
        raise InvalidClass("a class is a tuple (m, r) of integers, r from 0 to m - 1")


def check_classes(value, most):
    """Return None for a list of classes, at most so many, raise InvalidClass for anything else."""
    if not isinstance(value, list) or len(value) > most:
        raise InvalidClass(f"a list of at most {most} classes is needed")
    for one in value:
        check_class(one)


def lies_in(mark, one):
    """Tell whether a mark lies in a class."""
    return mark % one[0] == one[1]


def lies_in_any(mark, classes):
    """Tell whether a mark lies in one of the classes."""
    for one in classes:
        if lies_in(mark, one):
            return True
    return False


def is_inside(one, other):
    """Tell whether each mark of the one class lies in the other one; whether they are classes is not looked at."""
    return one[0] % other[0] == 0 and lies_in(one[1], other)


def have_common(one, other):
    """Tell whether some mark lies in both classes."""
    return (one[1] - other[1]) % gcd(one[0], other[0]) == 0


def common_class(one, other):
    """Return the class of the marks that lie in both classes, or None; whether they are classes is not looked at."""
    if not have_common(one, other):
        return None
    modulus, remainder = one
    shared = gcd(modulus, other[0])
    further = other[0] // shared
    steps = (other[1] - remainder) // shared * inverse(modulus // shared, further) % further
    return modulus * further, remainder + modulus * steps


def meet(one, other):
    """Return the class of the marks that lie in both classes, or None if there is no such mark."""
    check_class(one)
    check_class(other)
    return common_class(one, other)


def first_bar(classes):
    """Return the least tuple of two places in the list at which classes without a common mark stand, or None."""
    for i in range(len(classes)):
        for j in range(i + 1, len(classes)):
            if not have_common(classes[i], classes[j]):
                return i, j
    return None


def meet_all(classes):
    """Return ("class", c), c the class of the marks that lie in all classes, or ("bar", i, j)."""
    check_classes(classes, MOST_TO_MEET)
    bar = first_bar(classes)
    if bar is not None:
        return "bar", bar[0], bar[1]
    # Classes of which any two have a common mark have one in common all together, so this is never None.
    common = (1, 0)
    for one in classes:
        common = common_class(common, one)
    return "class", common


def is_within(one, other):
    """Tell whether each mark of the one class lies in the other one."""
    check_class(one)
    check_class(other)
    return is_inside(one, other)


def least_left(within, classes):
    """Return the least mark of the class within that lies in none of the classes, or None; nothing is checked."""
    modulus, remainder = within
    # Classes that take 2 ** n marks in a row, n being their number, take all of them.
    for step in range(1 << len(classes)):
        mark = remainder + step * modulus
        if not lies_in_any(mark, classes):
            return mark
    return None


def left_out(within, classes):
    """Return the least mark of the class within that lies in none of the classes, or None."""
    check_class(within)
    check_classes(classes, MOST_TO_LEAVE)
    return least_left(within, classes)
