"""Stage 13, point [30]: sets of marks as values."""

import itertools
import random
import unittest
from fractions import Fraction
from math import lcm

from bymarks.dealvalues import Deal
from bymarks.errors import InvalidNumber, InvalidTerm, MarkError, TooMany
from bymarks.sets import term_below, term_nth, term_period, term_share
from bymarks.values import Marks
from tests.samples import (
    fold_flat, in_set, other_values, size_of, some_terms, term_of_levels, term_of_size, wrong_classes, wrong_numbers, wrong_terms,
)
from tests.samples_rules import fraction

ODD = ("class", 2, 1)
OPERATORS = {
    "and": (lambda a, b: a & b, lambda a, b: ("and", a, b), lambda x, y: x and y),
    "or": (lambda a, b: a | b, lambda a, b: ("or", a, b), lambda x, y: x or y),
    "less": (lambda a, b: a - b, lambda a, b: ("and", a, ("not", b)), lambda x, y: x and not y),
    "one": (lambda a, b: a ^ b, lambda a, b: ("and", ("or", a, b), ("not", ("and", a, b))), lambda x, y: x != y),
}


def period_of(*terms):
    """A common period of the sets of some terms."""
    if not terms:
        return 1
    inner = [part for term in terms for part in term[1:] if isinstance(part, tuple)]
    return lcm(*[term[1] for term in terms if term[0] == "class"], period_of(*inner) if inner else 1)


def row_of(term, period):
    return [in_set(term, mark) for mark in range(period)]


def many_classes(many, begin=2):
    """A term with so many different classes in it."""
    return fold_flat("or", [("class", modulus, 1) for modulus in range(begin, begin + many)])


class TestSets(unittest.TestCase):

    def test_against_the_marks(self):
        for term in some_terms(81, 150):
            marks, period = Marks(term), period_of(term)
            row = row_of(term, period)
            inside = [mark for mark in range(period) if row[mark]]
            self.assertEqual(marks.term, term)
            self.assertEqual(marks.portion(), fraction(Fraction(len(inside), period)))
            self.assertEqual(marks.first(), inside[0] if inside else None)
            self.assertIs(bool(marks), bool(inside))
            self.assertEqual([mark in marks for mark in range(period)], row)
            self.assertEqual([marks.counted(n) for n in range(0, period, 5)], [sum(row[:n]) for n in range(0, period, 5)])
            shifts = [p for p in range(1, period + 1) if row == row[p % period:] + row[:p % period]]
            self.assertEqual(marks.least_period(), shifts[0])
            self.assertEqual(list(itertools.islice(marks.each(), 7)), [marks[k] for k in range(7)] if inside else [])
            if inside:
                expected = [mark for mark in range(8 * period) if row[mark % period]][:7]
                self.assertEqual([marks[k] for k in range(7)], expected)
                self.assertEqual(marks[3 * len(inside)], 3 * period + inside[0])

    def test_same_as_the_functions(self):
        for term in some_terms(82, 50):
            marks = Marks(term)
            self.assertEqual((marks.portion(), marks.least_period()), (term_share(term), term_period(term)))
            self.assertEqual(marks.counted(10 ** 300), term_below(term, 10 ** 300))
            if marks:
                self.assertEqual(marks[10 ** 300], term_nth(term, 10 ** 300))

    def test_made_by_classes(self):
        self.assertEqual(Marks.of_class(4, 1).term, ("class", 4, 1))
        self.assertEqual(Marks.every().term, ("all",))
        self.assertEqual(Marks.of_class(10 ** 60, 5).term, ("class", 10 ** 60, 5))
        for m, r in [(0, 0), (4, 4), (4, -1), (True, False), ("4", 1), (4, None), (10 ** 300 + 1, 0)]:
            with self.assertRaises(InvalidTerm):
                Marks.of_class(m, r)
        with self.assertRaises(TooMany):
            Marks.of_class(10 ** 60 + 1, 0)

    def test_term_stays(self):
        marks = Marks(ODD)
        with self.assertRaises(AttributeError):
            marks.term = ("all",)
        self.assertIs(marks.term, marks.term)

    def test_in(self):
        marks = Marks(ODD)
        self.assertTrue(3 in marks and 10 ** 300 + 1 in marks)
        for value in other_values() + wrong_numbers() + [(2, 1), "1", marks]:
            if value not in (1, 5, 10 ** 300) or isinstance(value, bool):
                self.assertIs(value in marks, False)

    def test_each(self):
        self.assertEqual(list(Marks(("none",)).each()), [])
        self.assertEqual(list((Marks(ODD) & (2, 0)).each()), [])
        for mark in Marks(ODD).each():
            self.assertEqual(mark, 1)
            break
        one, other = Marks(ODD).each(), Marks(ODD).each()
        self.assertEqual([next(one), next(one), next(other), next(one)], [1, 3, 1, 5])
        self.assertEqual(list(itertools.islice(Marks(("class", 10 ** 60, 7)).each(), 3)), [7, 10 ** 60 + 7, 2 * 10 ** 60 + 7])
        self.assertEqual(list(itertools.islice(Marks.every().each(), 2000)), list(range(2000)))


class TestOperators(unittest.TestCase):

    def test_against_the_marks(self):
        chance = random.Random(83)
        terms = [term for term in some_terms(84, 120, 3) if size_of(term) <= 14]
        for one, other in zip(terms, terms[1:]):
            period = period_of(one, other)
            rows = row_of(one, period), row_of(other, period)
            a, b = Marks(one), Marks(other)
            # A class with a modulus that divides the period stands on either side, too.
            modulus = chance.choice([m for m in range(1, 13) if period % m == 0])
            remainder = chance.randrange(modulus)
            as_class, row = ("class", modulus, remainder), [mark % modulus == remainder for mark in range(period)]
            for operator, told, both in OPERATORS.values():
                for found, first, second, x, y in [
                    (operator(a, b), one, other, rows[0], rows[1]),
                    (operator(a, (modulus, remainder)), one, as_class, rows[0], row),
                    (operator((modulus, remainder), a), as_class, one, row, rows[0]),
                ]:
                    self.assertIsInstance(found, Marks)
                    self.assertEqual(found.term, told(first, second))
                    self.assertEqual(row_of(found.term, period), [both(p, q) for p, q in zip(x, y)])
                    self.assertEqual([mark in found for mark in range(40)], [in_set(found.term, mark) for mark in range(40)])
            self.assertEqual((~a).term, ("not", one))
            self.assertEqual(((a & b).term, a.term, b.term), (("and", one, other), one, other))
            self.assertIs(a == b, rows[0] == rows[1])
            self.assertIs(a != b, rows[0] != rows[1])
            self.assertIs(a.inside(b), all(q for p, q in zip(*rows) if p))
            self.assertIs(a.inside((modulus, remainder)), all(q for p, q in zip(rows[0], row) if p))

    def test_equal(self):
        self.assertEqual(~Marks(ODD), Marks(("class", 2, 0)))
        self.assertEqual(Marks(("or", ODD, ("class", 2, 0))), Marks.every())
        self.assertTrue(Marks(ODD) != Marks.every())
        for value in other_values() + [ODD, (2, 1), [ODD], Deal.plain(2)]:
            self.assertIs(Marks(ODD) == value, False)
            self.assertIs(value == Marks(ODD), False)
            self.assertIs(Marks(ODD) != value, True)

    def test_inside(self):
        self.assertTrue(Marks(("class", 6, 3)).inside((3, 0)))
        self.assertFalse(Marks(("class", 3, 0)).inside((6, 3)))
        self.assertTrue(Marks(("none",)).inside(Marks(("none",))))
        self.assertTrue(Marks(ODD).inside(Marks.every()))


class TestErrors(unittest.TestCase):

    def test_invalid_term(self):
        for wrong in wrong_terms() + [Marks(ODD), term_of_size(61), term_of_levels(17)]:
            with self.subTest(str(wrong)[:100]), self.assertRaises(InvalidTerm):
                Marks(wrong)
        # A term that is none is told ahead of what are too many classes.
        with self.assertRaises(InvalidTerm):
            Marks(("or", many_classes(9), ("class", 0, 0)))

    def test_too_many(self):
        self.assertEqual(Marks(many_classes(8)).term, many_classes(8))
        self.assertEqual(Marks(("or", many_classes(8), many_classes(8))).portion(), Marks(many_classes(8)).portion())
        for wrong in (many_classes(9), ("class", 10 ** 60 + 1, 0), ("not", ("and", ODD, ("class", 10 ** 300, 0)))):
            with self.assertRaises(TooMany):
                Marks(wrong)

    def test_errors_of_the_functions(self):
        for wrong in wrong_numbers():
            with self.assertRaises(InvalidNumber):
                Marks(ODD).counted(wrong)
            for marks in (Marks(ODD), Marks(("none",))):
                with self.assertRaises(InvalidNumber):
                    marks[wrong]
        for k in (0, 5):
            with self.assertRaises(InvalidNumber):
                Marks(("none",))[k]
        for term in (many_classes(6), ("class", 1000001, 0)):
            with self.assertRaises(TooMany):
                Marks(term).least_period()

    def test_other_sides(self):
        marks = Marks(ODD)
        wrong = [value for value in wrong_classes() + [ODD, [(2, 1)], Deal.plain(2), ("all",)]]
        for value in wrong:
            with self.subTest(str(value)[:100]):
                for operator, _, _ in OPERATORS.values():
                    for one, other in ((marks, value), (value, marks)):
                        if not isinstance(one, Deal):
                            with self.assertRaises(InvalidTerm):
                                operator(one, other)
                with self.assertRaises(InvalidTerm):
                    marks.inside(value)

    def test_sizes_of_new_terms(self):
        # Sizes of new terms: one more for and, two more for less, twice both and four more for one of them.
        for (name, kept, refused) in [("and", 58, 59), ("or", 58, 59), ("less", 57, 58), ("one", 27, 28)]:
            operator, told, _ = OPERATORS[name]
            self.assertEqual(operator(Marks(term_of_size(kept)), (3, 1)).term, told(term_of_size(kept), ("class", 3, 1)))
            self.assertEqual(operator((3, 1), Marks(term_of_size(kept))).term, told(("class", 3, 1), term_of_size(kept)))
            with self.assertRaises(InvalidTerm):
                operator(Marks(term_of_size(refused)), (3, 1))
            with self.assertRaises(InvalidTerm):
                operator((3, 1), Marks(term_of_size(refused)))
        self.assertEqual((~Marks(term_of_size(59))).term, ("not", term_of_size(59)))
        for term in (term_of_size(60), term_of_levels(16)):
            with self.assertRaises(InvalidTerm):
                ~Marks(term)
        for name, kept in [("and", 15), ("or", 15), ("less", 15), ("one", 13)]:
            operator = OPERATORS[name][0]
            operator(Marks(term_of_levels(kept)), (3, 1))
            with self.assertRaises(InvalidTerm):
                operator((3, 1), Marks(term_of_levels(kept + 2 if name == "one" else kept + 1)))
        with self.assertRaises(InvalidTerm):
            Marks(ODD) - Marks(term_of_levels(15))
        self.assertIsInstance(Marks(ODD) - Marks(term_of_levels(14)), Marks)

    def test_too_many_of_both(self):
        four, same, five = Marks(many_classes(4)), Marks(many_classes(5)), Marks(many_classes(5, 20))
        checks = [operator for operator, _, _ in OPERATORS.values()]
        checks += [lambda a, b: a == b, lambda a, b: a.inside(b), lambda a, b: a != b]
        for check in checks:
            check(four, same)
            for one, other in ((four, five), (five, four)):
                with self.assertRaises(TooMany):
                    check(one, other)
        # Of a new term that is too great, and that has too many classes, too, the first is told.
        great = (Marks(fold_flat("or", [("class", m, 0) for m in range(2, 10)] * 3)), Marks(term_of_size(20)))
        with self.assertRaises(InvalidTerm):
            great[0] ^ (great[1] | (100, 1))

    def test_great_classes(self):
        # A class may have any modulus, but a term has none above 10 ** 300, and none above 10 ** 60 is counted by.
        marks = Marks(ODD)
        for modulus, error in ((10 ** 60, None), (10 ** 60 + 1, TooMany), (10 ** 300, TooMany), (10 ** 300 + 1, InvalidTerm)):
            for operator, _, _ in OPERATORS.values():
                for one, other in ((marks, (modulus, 1)), ((modulus, 1), marks)):
                    if error is None:
                        operator(one, other)
                    else:
                        with self.assertRaises(error):
                            operator(one, other)
            if error is None:
                self.assertIs(marks.inside((modulus, 1)), False)
            else:
                with self.assertRaises(TooMany):
                    marks.inside((modulus, 1))

    def test_nothing_is_gone_through(self):
        with self.assertRaises(TypeError):
            list(Marks(ODD))
        self.assertTrue(issubclass(InvalidTerm, MarkError))


if __name__ == "__main__":
    unittest.main()
