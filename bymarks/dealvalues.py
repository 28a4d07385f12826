"""Deals as values, with operators."""

from bymarks.deals import form, linear, place_of, plain, remainders_to, split
from bymarks.integers import is_natural
from bymarks.runs import together


class Deal:
    """A deal, held by the tuple that tells it."""

    def __init__(self, data):
        self._form = form(data)
        self._data = data

    @staticmethod
    def plain(modulus):
        """Return the deal by remainders."""
        return Deal(plain(modulus))

    @staticmethod
    def halved(modulus, many):
        """Return the deal by remainders of which the first many places are split in two."""
        return Deal(split(modulus, many))

    @staticmethod
    def linear(base, many):
        """Return the deal with many places that grows from the remainders by base, one split behind the other."""
        return Deal(linear(base, many))

    @property
    def data(self):
        """The tuple that was handed in."""
        return self._data

    @property
    def form(self):
        """The deal that does the same with the least period and the fewest pieces."""
        return self._form

    def __call__(self, mark):
        return place_of(self._data, mark)

    def __eq__(self, other):
        return isinstance(other, Deal) and self._form == other._form

    def __len__(self):
        return len(self._form[1])

    def __contains__(self, place):
        return is_natural(place) and len(remainders_to(self._form, place)) > 0

    def __getitem__(self, place):
        if not is_natural(place):
            return ()
        period = self._form[0]
        return tuple([(period, remainder) for remainder in sorted(remainders_to(self._form, place))])

    def __iter__(self):
        raise TypeError("the places of a deal are not gone through")

    def __and__(self, other):
        return together([self._data, other._data])

    def __xor__(self, other):
        period, runs = together([self._data, other._data])
        starts = [0] + [end for _, end in runs]
        ends = [start for start, _ in runs] + [period]
        return period, tuple([(start, end) for start, end in zip(starts, ends) if start < end])

    def __rshift__(self, other):
        period, pieces = self._form
        return Deal((period, tuple([(start, shift + other) for start, shift in pieces])))

    def __lshift__(self, other):
        period, pieces = self._form
        return Deal((period, tuple([(start, shift - other) for start, shift in pieces])))
