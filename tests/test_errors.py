"""The errors of the interface."""

import unittest

from bymarks import errors
from bymarks.errors import InvalidLine, MarkError

PLAIN = """InvalidMark InvalidNumber TooMany InvalidClass InvalidTerm InvalidRule InvalidChain InvalidBegin
    InvalidDeal InvalidDeals InvalidPlace InvalidFamilies InvalidPattern InvalidSightings InvalidPlan
    InvalidHistory InvalidItem NotRight InvalidEntries InvalidName KnownThing UnknownThing NothingToUndo
    UnknownDeed CannotBe SameThing""".split()


class TestErrors(unittest.TestCase):

    def test_all_are_there(self):
        self.assertEqual(len(PLAIN), 26)
        told = [name for name, value in vars(errors).items() if isinstance(value, type)]
        self.assertEqual(sorted(told), sorted(PLAIN + ["MarkError", "InvalidLine"]))
        for name in told:
            self.assertEqual(getattr(errors, name).__module__, "bymarks.errors")

    def test_created_without_and_with_a_string(self):
        for name in PLAIN + ["MarkError"]:
            kind = getattr(errors, name)
            with self.subTest(name):
                self.assertEqual(str(kind()), "")
                self.assertEqual(str(kind("why")), "why")
                for error in (kind(), kind("why")):
                    self.assertIsInstance(error, MarkError)
                    self.assertIsInstance(error, ValueError)

    def test_none_is_another_kind(self):
        for name in PLAIN + ["InvalidLine"]:
            with self.subTest(name):
                self.assertEqual(getattr(errors, name).__bases__, (MarkError,))
        self.assertEqual(MarkError.__bases__, (ValueError,))

    def test_line_and_reason(self):
        for line in (0, 3, -7, 10 ** 301 - 1, -10 ** 5000):
            for reason in ("line", "", "any string at all {} \n"):
                error = InvalidLine(line, reason)
                self.assertEqual((error.line, error.reason), (line, reason))
                self.assertIsInstance(error, MarkError)
                self.assertIn(reason, str(error))
        named = InvalidLine(line=4, reason="name")
        self.assertEqual((named.line, named.reason), (4, "name"))

    def test_raised_and_caught(self):
        with self.assertRaises(MarkError) as caught:
            raise InvalidLine(2, "deal")
        self.assertEqual((caught.exception.line, caught.exception.reason), (2, "deal"))
        with self.assertRaises(ValueError):
            raise errors.TooMany


if __name__ == "__main__":
    unittest.main()
