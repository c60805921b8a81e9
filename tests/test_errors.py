"""[2]: the error classes."""

import unittest

from manrods import errors

UNDER_LOOKUP = ("NoPlace", "NothingDone")
UNDER_VALUE = ("BadLine", "CanNot", "TooMuch", "Unfit")
KEPT = {"NoPlace": "place", "BadLine": "line"}


class Errors(unittest.TestCase):

    def test_bases(self):
        for names, base in ((UNDER_LOOKUP, LookupError), (UNDER_VALUE, ValueError)):
            for name in names:
                self.assertEqual(getattr(errors, name).__bases__, (base,))

    def test_none_under_another(self):
        classes = [getattr(errors, name) for name in UNDER_LOOKUP + UNDER_VALUE]
        for one in classes:
            for two in classes:
                self.assertEqual(issubclass(one, two), one is two)
        for name in UNDER_LOOKUP:
            self.assertFalse(issubclass(getattr(errors, name), (ValueError, IndexError, KeyError)))
        for name in UNDER_VALUE:
            self.assertFalse(issubclass(getattr(errors, name), (LookupError, UnicodeError)))

    def test_values_are_kept(self):
        for name, attribute in KEPT.items():
            made = getattr(errors, name)
            for value in (0, -3, 10 ** 12, "word"):
                self.assertEqual(vars(made(value)), {attribute: value})
                self.assertEqual(vars(made(**{attribute: value})), {attribute: value})
            with self.assertRaises(TypeError):
                made()

    def test_those_without_values(self):
        for name in UNDER_LOOKUP + UNDER_VALUE:
            if name not in KEPT:
                self.assertEqual(vars(getattr(errors, name)()), {})


if __name__ == "__main__":
    unittest.main()
