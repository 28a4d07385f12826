"""The examples of the document, as they stand there, and those of README.md."""

import doctest
import unittest
from pathlib import Path

README = Path(__file__).resolve().parent.parent / "README.md"
EXAMPLES = [
    r"""
    >>> from bymarks.classes import left_out, meet, meet_all
    >>> [meet((4, 1), (6, 3)), meet_all([(4, 1), (9, 2), (6, 0)]), left_out((5, 2), [(2, 0), (4, 1)])]
    [(12, 9), ('bar', 0, 2), 7]
    """,
    r"""
    >>> from bymarks.sets import term_nth, term_outside, term_share
    >>> either = ('or', ('class', 2, 0), ('class', 3, 0))
    >>> [term_share(either), term_nth(either, 10), term_outside(either, ('class', 6, 0))]
    [(2, 3), 15, 2]
    """,
    r"""
    >>> from bymarks.rules import rule_moved, rule_parting
    >>> two = ('split', 'h', 2, (('place', 0), ('place', 1)))
    >>> four = ('split', 'h', 4, (('place', 0), ('place', 1), ('place', 0), ('place', 2)))
    >>> [rule_parting(two, four), rule_moved(two, four)]
    [{'h': 3}, (1, 4)]
    """,
    r"""
    >>> from bymarks.chains import own_marks, starved
    >>> links = {'a': ('h', 4, ('b', 'x', 'b', 'x')), 'b': ('h', 2, ('y', 'z'))}
    >>> [starved(links, 'a'), own_marks(links, 'a')]
    [{('b', 1): [((('a', 0),), 0), ((('a', 2),), 0)]}, ['a']]
    """,
    r"""
    >>> from bymarks.deals import linear, plain
    >>> from bymarks.runs import agreement, parting
    >>> [linear(4, 6), agreement([plain(4), plain(6)]), parting([plain(4), linear(4, 6)])]
    [(8, ((0, 0), (6, -4))), ((1, 3), 0), 4]
    """,
    r"""
    >>> from bymarks.deals import plain
    >>> from bymarks.patterns import patterns
    >>> patterns([plain(4), plain(6), plain(9)])
    [(((0, 1, 2),), (1, 9), 0), (((0,), (1, 2)), (2, 9), 4), (((0,), (1,), (2,)), (4, 9), 6), (((0, 1), (2,)), (2, 9), 12)]
    """,
    r"""
    >>> from bymarks.deals import plain
    >>> from bymarks.search import verdict, wrong_share
    >>> old = ((0,), (0,), (0,), (), 'any')
    >>> new = ((1,), (1,), (1,), (), 'any')
    >>> plan = ((plain(4), plain(6)), (old, new), False, False)
    >>> [verdict(plan), wrong_share(plan)]
    [(4, [('put', 0), ('next',), ('read', 1)], 'missed'), (2, 3)]
    """,
    r"""
    >>> from bymarks.deals import plain
    >>> from bymarks.search import verdict
    >>> old = ((0,), (0,), (0,), (), 'any')
    >>> both = ((0, 1), (0,), (0, 1), (('renew', 0, 1),), 'done')
    >>> new = ((1,), (1,), (1,), (), 'any')
    >>> deals = (plain(4), plain(6))
    >>> [verdict((deals, (old, both, new), False, False)), verdict((deals, (old, both, new), False, True))]
    [None, (4, [('next',), ('leave',), ('move', 0), ('next',), ('put', 2), ('read', 1)], 'missed')]
    """,
    r"""
    >>> from bymarks.deals import plain
    >>> from bymarks.seen import known, told
    >>> sightings = [(plain(4), 3), (plain(6), 1)]
    >>> [known(sightings), told(sightings, plain(3)), told(sightings, plain(5))]
    [(12, (7,)), ('sure', 1), ('unsure', 7, 19)]
    """,
    r"""
    >>> from bymarks.values import Marks
    >>> odd = Marks.of_class(2, 1)
    >>> [~odd == Marks.of_class(2, 0), (odd & (3, 2)).term, (odd - (3, 2))[3], odd.inside(Marks.every())]
    [True, ('and', ('class', 2, 1), ('class', 3, 2)), 9, True]
    """,
    r"""
    >>> from bymarks.texts import paper_text, read_paper
    >>> text = 'deal old 4 0+0\ndeal new 8 0+0 6-4\nrule r if h 4 1 then place 0 else place 7'
    >>> entries = read_paper(text)
    >>> [entries[1][2], entries[2][2], paper_text(entries) == text + '\n']
    [(8, ((0, 0), (6, -4))), ('if', 'h', 4, 1, ('place', 0), ('place', 7)), True]
    """,
    r"""
    >>> from bymarks.texts import paper_text, read_paper
    >>> text = 'deal old 4 0+0\ndeal new 6 0+0\nplan p old new\nlag\nphase any\nput 0\nlook 0\nclear 0\n'
    >>> text = text + 'phase done\nput 0 1\nlook 0\nclear 0 1\nrenew 0 1\nend\nchain c\na h b x\nend\n'
    >>> entries = read_paper(text)
    >>> [entries[2][2][1:], entries[3], paper_text(entries) == text]
    [((((0,), (0,), (0,), (), 'any'), ((0, 1), (0,), (0, 1), (('renew', 0, 1),), 'done')), False, True), ('chain', 'c', {'a': ('h', 2, ('b', 'x'))}), True]
    """,
    r"""
    >>> from bymarks.deals import linear, plain
    >>> from bymarks.desk import Watch, try_all
    >>> watch = Watch()
    >>> first = [('enter', 'a'), ('see', 'a', plain(4), 1), ('enter', 'b'), ('see', 'b', linear(4, 6), 5)]
    >>> try_all(watch, first + [('enter', 'c'), ('see', 'c', plain(6), 2)])
    >>> [watch.where('b', plain(4)), watch.where('a', linear(4, 6)), watch.shared('a', 'b'), watch.unlike()]
    [('sure', 1), ('unsure', 1, 5), 5, [('a', 'c'), ('b', 'c')]]
    """,
]


class TestExamples(unittest.TestCase):

    def test_each_in_a_session_of_its_own(self):
        for number, text in enumerate(EXAMPLES):
            with self.subTest(number):
                self.run_session(text)

    def test_readme(self):
        self.run_session(README.read_text(encoding="utf-8"))

    def run_session(self, text):
        session = doctest.DocTestParser().get_doctest(text, {}, "session", None, None)
        told = doctest.DocTestRunner(verbose=False).run(session)
        self.assertEqual((told.failed, told.attempted > 1), (0, True))


if __name__ == "__main__":
    unittest.main()
