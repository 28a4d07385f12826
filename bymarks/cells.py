"""Cells: what the ways down a rule ask of the marks.

A patch is a tuple (within, outs): the marks of the class within that lie in none of the classes outs.
A cell is a tuple of patches, one for each of some names: the things whose marks all lie in theirs.
"""

from bymarks.classes import common_class, have_common, is_inside, least_left

EVERY_PATCH = ((1, 0), ())


def every_cell(many):
    """Return the cell of all things, for so many names."""
    return (EVERY_PATCH,) * many


def with_patch(cell, at, patch):
    """Return the cell with another patch for the name number at."""
    return cell[:at] + (patch,) + cell[at + 1:]


def in_class(cell, at, one):
    """Return the cell of those things whose mark number at lies in a class, or None if there are none."""
    within, outs = cell[at]
    common = common_class(within, one)
    if common is None:
        return None
    return with_patch(cell, at, (common, outs))


def out_of_class(cell, at, one):
    """Return the cell of those things whose mark number at does not lie in a class, or None if surely none are left."""
    within, outs = cell[at]
    if is_inside(within, one):
        return None
    if not have_common(within, one):
        return cell
    return with_patch(cell, at, (within, outs + (one,)))


def least_in_patch(patch):
    """Return the least mark of a patch, or None."""
    within, outs = patch
    if any([is_inside(within, one) for one in outs]):
        return None
    return least_left(within, outs)


def least_in_both(one, other):
    """Return the least mark that lies in both patches, or None."""
    within = common_class(one[0], other[0])
    if within is None:
        return None
    return least_in_patch((within, one[1] + other[1]))


def least_marks(cell):
    """Return the tuple of the least marks of a thing in the cell, or None if there is none."""
    marks = ()
    for patch in cell:
        mark = least_in_patch(patch)
        if mark is None:
            return None
        marks = marks + (mark,)
    return marks


def first_marks(cell):
    """Return a tuple of marks that is at most that of the least marks of the cell, without a search for these."""
    return tuple([within[1] for within, _ in cell])
