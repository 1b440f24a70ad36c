"""Point 2: the errors."""

import inspect
import unittest

from clashnumber import errors

PARAMETERS = {
    "NoTable": "word", "NoBook": "word", "NoForm": "word", "NoVote": "word", "NoChoice": "word",
    "NoBound": "number", "NoNumber": "", "NoClash": "found", "NoField": "field", "NoValue": "value",
    "NoAnswer": "field", "InUse": "name", "Clash": "pairs", "MoreThan": "worst", "TooGreat": "",
    "InvalidText": "",
}
KEPT = ("no", None, 10 ** 39, [1, [2]], {"a": []}, (("a", "no"), ("c", "yes")), True)


class ErrorTests(unittest.TestCase):
    def test_the_base(self):
        self.assertEqual(errors.ClashnumberError.__bases__, (Exception,))

    def test_there_are_these_sixteen_direct_subclasses(self):
        found = [name for name, thing in vars(errors).items() if inspect.isclass(thing)]
        self.assertEqual(sorted(found), sorted(list(PARAMETERS) + ["ClashnumberError"]))
        self.assertEqual(len(PARAMETERS), 16)
        for name in PARAMETERS:
            self.assertEqual(getattr(errors, name).__bases__, (errors.ClashnumberError,), name)

    def test_by_position_and_by_name(self):
        for name, parameter in PARAMETERS.items():
            if not parameter:
                self.assertIsInstance(getattr(errors, name)(), errors.ClashnumberError)
                continue
            for thing in KEPT:
                self.assertIs(getattr(getattr(errors, name)(thing), parameter), thing)
                self.assertIs(getattr(getattr(errors, name)(**{parameter: thing}), parameter), thing)

    def test_a_parameter_is_needed_and_no_other_is_taken(self):
        for name, parameter in PARAMETERS.items():
            if parameter:
                self.assertRaises(TypeError, getattr(errors, name))
                self.assertRaises(TypeError, getattr(errors, name), 1, 2)
            self.assertRaises(TypeError, getattr(errors, name), other=1)

    def test_raised_and_caught(self):
        for name, parameter in PARAMETERS.items():
            told = ("no",) if parameter else ()
            with self.assertRaises(errors.ClashnumberError) as caught:
                raise getattr(errors, name)(*told)
            self.assertIs(caught.exception.__class__, getattr(errors, name))

    def test_as_the_document_shows_them(self):
        self.assertEqual(repr(errors.Clash((("a", "no"), ("c", "yes")))), "Clash((('a', 'no'), ('c', 'yes')))")


if __name__ == "__main__":
    unittest.main()
