"""[13]"""

import unittest

from racebooks.errors import BadOffer, BadSyntax, BadValue, BookError, TooMany
from tests.helpers import Case

KINDS = (BadValue, BadOffer, BadSyntax, TooMany)


class Errors(Case):
    def test_base_is_direct_subclass_of_exception(self):
        self.assertEqual(BookError.__bases__, (Exception,))

    def test_each_has_only_the_base(self):
        for kind in KINDS:
            self.assertEqual(kind.__bases__, (BookError,))

    def test_each_is_none_of_the_others(self):
        for kind in KINDS:
            error = kind("stakes" if kind is TooMany else 1)
            self.assertIsInstance(error, BookError)
            self.assertEqual([other for other in KINDS if isinstance(error, other)], [kind])

    def test_argument_is_kept(self):
        for kind in (BadValue, BadOffer, BadSyntax):
            for at in (0, 1, 7):
                self.assertEqual(kind(at).at, at)
                self.assertEqual(kind(at=at).at, at)
        self.assertEqual(TooMany("stakes").word, "stakes")
        self.assertEqual(TooMany(word="stakes").word, "stakes")

    def test_each_is_caught_as_base(self):
        for kind in KINDS:
            with self.assertRaises(BookError):
                raise kind(3)


if __name__ == "__main__":
    unittest.main()
