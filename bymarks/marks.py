"""Marks: which values are marks, alone and by names."""

from bymarks.errors import InvalidMark
from bymarks.integers import is_natural


def check_mark(value):
    """Return None for a mark, raise InvalidMark for anything else."""
    if not is_natural(value):
        raise InvalidMark("a mark is an integer from 0 on")


def check_marks(value, names):
    """Return None for a dict that has a mark for each of the names, raise InvalidMark for anything else."""
    if not isinstance(value, dict):
        raise InvalidMark("marks are told by a dict")
    for name in names:
        check_mark(value.get(name))
