"""Families of marks on which deals agree; nothing is checked here."""

from bymarks.classes import common_class
from bymarks.deals import form, spans_of
from bymarks.integers import common_multiple


def agreement_spans(deal):
    """Return the list of tuples (lead, low, high), one for each piece of a deal.

    The marks of a piece are sums of their place, which is one from low on and less than high, and a number
    of the class lead, which may be less than 0. Each such sum from 0 on is one of them.
    """
    period = deal[0]
    return [((period, -shift % period), start + shift, end + shift) for start, end, shift in spans_of(deal)]


def common_span(one, other):
    """Return the tuple (lead, low, high) of the marks that have the same place by both pieces, or None."""
    low, high = max(one[1], other[1]), min(one[2], other[2])
    lead = common_class(one[0], other[0]) if low < high else None
    return None if lead is None else (lead, low, high)


def common_spans(spans, others):
    """Return the list of all tuples (lead, low, high) by which pieces of two lists have marks of one place."""
    pairs = [common_span(one, other) for one in spans for other in others]
    return [span for span in pairs if span is not None]


def joined_runs(runs):
    """Return the tuple of the runs, which ascend and have no common marks, those that touch joined."""
    found = []
    for run in runs:
        if found and found[-1][1] == run[0]:
            found[-1] = (found[-1][0], run[1])
        else:
            found.append(run)
    return tuple(found)


def family_of(deals):
    """Return the family of the marks on which the deals agree."""
    forms = [form(deal) for deal in deals]
    period = common_multiple([deal[0] for deal in forms])
    spans = agreement_spans(forms[0])
    for other in forms[1:]:
        spans = common_spans(spans, agreement_spans(other))
    starts = [((lead[1] + low) % period, high - low) for lead, low, high in spans]
    return period, joined_runs(sorted([(start, start + many) for start, many in starts]))


def size_of_family(family):
    """Return how many remainders by the period lie in the runs of a family."""
    return sum([end - start for start, end in family[1]])
