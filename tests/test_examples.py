"""The examples of the document, as they stand there, and those of README.md."""

import doctest
import unittest
from pathlib import Path

README = Path(__file__).resolve().parent.parent / "README.md"
EXAMPLES = [
    """
    >>> from bymarks.classes import left_out, meet, meet_all
    >>> [meet((4, 1), (6, 3)), meet_all([(4, 1), (9, 2), (6, 0)]), left_out((5, 2), [(2, 0), (4, 1)])]
    [(12, 9), ('bar', 0, 2), 7]
    """,
    """
    >>> from bymarks.sets import term_nth, term_outside, term_share
    >>> either = ('or', ('class', 2, 0), ('class', 3, 0))
    >>> [term_share(either), term_nth(either, 10), term_outside(either, ('class', 6, 0))]
    [(2, 3), 15, 2]
    """,
]


class TestExamples(unittest.TestCase):

    def test_each_in_a_session_of_its_own(self):
        for number, text in enumerate(EXAMPLES):
            with self.subTest(number):
                self.run_session(text)

    def test_readme(self):
        self.run_session(README.read_text(encoding="utf-8"))

    def run_session(self, text):
        session = doctest.DocTestParser().get_doctest(text, {}, "session", None, None)
        told = doctest.DocTestRunner(verbose=False).run(session)
        self.assertEqual((told.failed, told.attempted > 1), (0, True))


if __name__ == "__main__":
    unittest.main()
