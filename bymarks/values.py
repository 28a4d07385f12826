"""Sets of marks as values, with operators."""

from bymarks.classes import is_class
from bymarks.errors import InvalidTerm
from bymarks.integers import is_natural
from bymarks.sets import (
    GREATEST_TO_COUNT, MOST_CLASSES, classes_to_count, limit_classes, tally_in, term_below, term_has, term_least,
    term_nth, term_outside, term_parting, term_period, term_share,
)
from bymarks.tallies import nth_of


class Marks:
    """A set of marks, held by its term."""

    def __init__(self, term):
        classes_to_count([term])
        self._term = term

    @staticmethod
    def of_class(m, r):
        """Return the set of the marks of a class."""
        return Marks(("class", m, r))

    @staticmethod
    def every():
        """Return the set of all marks."""
        return Marks(("all",))

    @property
    def term(self):
        """The term of the set."""
        return self._term

    def portion(self):
        """Return the share of the set as a fraction."""
        return term_share(self._term)

    def first(self):
        """Return the least mark of the set, or None."""
        return term_least(self._term)

    def least_period(self):
        """Return the least integer from 1 on by which the set repeats itself."""
        return term_period(self._term)

    def counted(self, n):
        """Return how many marks of the set are less than n."""
        return term_below(self._term, n)

    def inside(self, other):
        """Tell whether each mark of the set lies in the other one, an object or a class."""
        # A class may have a greater modulus than a term can have; it is a class, but too great to count by.
        if is_class(other):
            limit_classes([other], MOST_CLASSES, GREATEST_TO_COUNT)
        return term_outside(self._term, term_of(other)) is None

    def each(self):
        """Yield the marks of the set in ascending order, without end if there are any."""
        if self.first() is None:
            return
        tally = tally_in(self._term)
        k = 0
        while True:
            yield nth_of(tally, k)
            k += 1

    def __getitem__(self, k):
        return term_nth(self._term, k)

    def __iter__(self):
        raise TypeError("the marks of a set are not gone through, but for those of each")

    def __contains__(self, mark):
        return is_natural(mark) and term_has(self._term, mark)

    def __bool__(self):
        return bool(self.portion()[0])

    def __eq__(self, other):
        return isinstance(other, Marks) and term_parting(self._term, other._term) is None

    def __and__(self, other):
        return Marks(("and", self._term, term_of(other)))

    def __rand__(self, other):
        return Marks(("and", term_of(other), self._term))

    def __or__(self, other):
        return Marks(("or", self._term, term_of(other)))

    def __ror__(self, other):
        return Marks(("or", term_of(other), self._term))

    def __sub__(self, other):
        return Marks(("and", self._term, ("not", term_of(other))))

    def __rsub__(self, other):
        return Marks(("and", term_of(other), ("not", self._term)))

    def __xor__(self, other):
        return Marks(term_of_one(self._term, term_of(other)))

    def __rxor__(self, other):
        return Marks(term_of_one(term_of(other), self._term))

    def __invert__(self):
        return Marks(("not", self._term))


def term_of(value):
    """Return the term of an object or a class, raise InvalidTerm for anything else."""
    if isinstance(value, Marks):
        return value.term
    if not is_class(value):
        raise InvalidTerm("on the other side stands neither a set of marks nor a class")
    return ("class",) + value


def term_of_one(one, other):
    """Return the term of the marks that lie in just one of the sets of two terms."""
    return ("and", ("or", one, other), ("not", ("and", one, other)))
