"""Sets of marks, told by terms: all, none, classes, and not, and, or of other terms."""

from bymarks.classes import is_class, lies_in
from bymarks.errors import InvalidNumber, InvalidTerm, TooMany
from bymarks.integers import is_natural, prime_factors
from bymarks.marks import check_mark
from bymarks.tallies import below_of, class_table, full_table, least_of, least_period, nth_of, share_of, tally_of

SIZES = {"all": 1, "none": 1, "class": 3, "not": 2, "and": 3, "or": 3}
MOST_TERMS = 60
MOST_LEVELS = 16
GREATEST_MODULUS = (10 ** 60) ** 5

MOST_CLASSES = 8
GREATEST_TO_COUNT = 10 ** 60
MOST_CLASSES_OF_PERIOD = 5
GREATEST_OF_PERIOD = 1000000


def inner_terms(term):
    """Return the tuple of the terms that stand in a term, but not within others of them."""
    if term[0] == "class":
        return ()
    return term[1:]


def has_form(value):
    """Tell whether the value is a term, if what stands at the places of its inner terms is."""
    if not isinstance(value, tuple) or len(value) == 0 or not isinstance(value[0], str):
        return False
    if len(value) != SIZES.get(value[0], 0):
        return False
    return value[0] != "class" or is_class(value[1:]) and value[1] <= GREATEST_MODULUS


def is_term(value):
    """Tell whether the value is a term."""
    waiting = [(value, 1)]
    many = 0
    while waiting:
        part, level = waiting.pop()
        many += 1
        if many > MOST_TERMS or level > MOST_LEVELS or not has_form(part):
            return False
        for inner in inner_terms(part):
            waiting.append((inner, level + 1))
    return True


def check_term(term):
    """Return None for a term, raise InvalidTerm for anything else."""
    if not is_term(term):
        raise InvalidTerm("a term is all, none, a class, or not, and, or of terms, of a limited size")


def holds(term, mark):
    """Tell whether a mark lies in the set of a term."""
    kind = term[0]
    if kind == "class":
        return lies_in(mark, term[1:])
    if kind == "not":
        return not holds(term[1], mark)
    if kind == "and":
        return holds(term[1], mark) and holds(term[2], mark)
    if kind == "or":
        return holds(term[1], mark) or holds(term[2], mark)
    return kind == "all"


def term_has(term, mark):
    """Tell whether the mark lies in the set."""
    check_term(term)
    check_mark(mark)
    return holds(term, mark)


def class_places(term):
    """Return the list of the classes that stand in a term, one that stands there twice also twice."""
    if term[0] == "class":
        return [term[1:]]
    return [one for inner in inner_terms(term) for one in class_places(inner)]


def classes_in(term):
    """Return the ascending list of the classes that stand in the term."""
    check_term(term)
    return sorted(set(class_places(term)))


def limit_classes(classes, most, greatest):
    """Raise TooMany for more classes than told, or for a greater modulus."""
    if len(classes) > most or any([one[0] > greatest for one in classes]):
        raise TooMany(f"at most {most} different classes with moduli up to {greatest} can be looked at")


def classes_to_count(terms):
    """Return the ascending list of the classes in all of the terms, which are looked at one after the other."""
    for term in terms:
        check_term(term)
    classes = sorted(set([one for term in terms for one in class_places(term)]))
    limit_classes(classes, MOST_CLASSES, GREATEST_TO_COUNT)
    return classes


def table_of(term, classes):
    """Return the table of the term's set for the classes, among which are all of the term."""
    kind = term[0]
    if kind == "none":
        return 0
    if kind == "class":
        return class_table(classes.index(term[1:]), len(classes))
    if kind == "and":
        return table_of(term[1], classes) & table_of(term[2], classes)
    if kind == "or":
        return table_of(term[1], classes) | table_of(term[2], classes)
    if kind == "not":
        return full_table(len(classes)) ^ table_of(term[1], classes)
    return full_table(len(classes))


def tally_in(term):
    """Return the tally of the term's set; the errors are those of all functions that count."""
    classes = classes_to_count([term])
    return tally_of(classes, table_of(term, classes))


def term_least(term):
    """Return the least mark of the set, or None."""
    return least_of(tally_in(term))


def term_parting(one, other):
    """Return the least mark that lies in just one of the sets, or None if they are the same."""
    classes = classes_to_count([one, other])
    return least_of(tally_of(classes, table_of(one, classes) ^ table_of(other, classes)))


def term_outside(one, other):
    """Return the least mark of the one set that does not lie in the other one, or None."""
    classes = classes_to_count([one, other])
    table = table_of(one, classes)
    return least_of(tally_of(classes, table ^ (table & table_of(other, classes))))


def term_share(term):
    """Return the share of the set as a fraction."""
    return share_of(tally_in(term))


def term_below(term, n):
    """Return how many marks of the set are less than n."""
    tally = tally_in(term)
    if not is_natural(n):
        raise InvalidNumber("n is an integer from 0 on")
    return below_of(tally, n)


def term_nth(term, k):
    """Return the mark of the set ahead of which k others are."""
    tally = tally_in(term)
    if not is_natural(k):
        raise InvalidNumber("k is an integer from 0 on")
    if share_of(tally)[0] == 0:
        raise InvalidNumber("the set is empty")
    return nth_of(tally, k)


def term_period(term):
    """Return the least integer from 1 on by which the set repeats itself."""
    classes = classes_to_count([term])
    limit_classes(classes, MOST_CLASSES_OF_PERIOD, GREATEST_OF_PERIOD)
    primes = sorted(set([prime for one in classes for prime in prime_factors(one[0])]))
    return least_period(tally_of(classes, table_of(term, classes)), primes)
