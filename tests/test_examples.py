"""The examples of the document, as they stand there, and those of README.md."""

import doctest
import unittest
from pathlib import Path

README = Path(__file__).resolve().parent.parent / "README.md"
EXAMPLES = [
    """
    >>> from bymarks.classes import left_out, meet, meet_all
    >>> [meet((4, 1), (6, 3)), meet_all([(4, 1), (9, 2), (6, 0)]), left_out((5, 2), [(2, 0), (4, 1)])]
    [(12, 9), ('bar', 0, 2), 7]
    """,
    """
    >>> from bymarks.sets import term_nth, term_outside, term_share
    >>> either = ('or', ('class', 2, 0), ('class', 3, 0))
    >>> [term_share(either), term_nth(either, 10), term_outside(either, ('class', 6, 0))]
    [(2, 3), 15, 2]
    """,
    """
    >>> from bymarks.rules import rule_moved, rule_parting
    >>> two = ('split', 'h', 2, (('place', 0), ('place', 1)))
    >>> four = ('split', 'h', 4, (('place', 0), ('place', 1), ('place', 0), ('place', 2)))
    >>> [rule_parting(two, four), rule_moved(two, four)]
    [{'h': 3}, (1, 4)]
    """,
    """
    >>> from bymarks.chains import own_marks, starved
    >>> links = {'a': ('h', 4, ('b', 'x', 'b', 'x')), 'b': ('h', 2, ('y', 'z'))}
    >>> [starved(links, 'a'), own_marks(links, 'a')]
    [{('b', 1): [((('a', 0),), 0), ((('a', 2),), 0)]}, ['a']]
    """,
    """
    >>> from bymarks.deals import linear, plain
    >>> from bymarks.runs import agreement, parting
    >>> [linear(4, 6), agreement([plain(4), plain(6)]), parting([plain(4), linear(4, 6)])]
    [(8, ((0, 0), (6, -4))), ((1, 3), 0), 4]
    """,
    """
    >>> from bymarks.deals import plain
    >>> from bymarks.patterns import patterns
    >>> patterns([plain(4), plain(6), plain(9)])
    [(((0, 1, 2),), (1, 9), 0), (((0,), (1, 2)), (2, 9), 4), (((0,), (1,), (2,)), (4, 9), 6), (((0, 1), (2,)), (2, 9), 12)]
    """,
]


class TestExamples(unittest.TestCase):

    def test_each_in_a_session_of_its_own(self):
        for number, text in enumerate(EXAMPLES):
            with self.subTest(number):
                self.run_session(text)

    def test_readme(self):
        self.run_session(README.read_text(encoding="utf-8"))

    def run_session(self, text):
        session = doctest.DocTestParser().get_doctest(text, {}, "session", None, None)
        told = doctest.DocTestRunner(verbose=False).run(session)
        self.assertEqual((told.failed, told.attempted > 1), (0, True))


if __name__ == "__main__":
    unittest.main()
