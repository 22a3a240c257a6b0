import inspect
import unittest

from tests.values import NAMES, any_values
from wiresindark import errors


class ErrorsTest(unittest.TestCase):
    def test_there_are_these_and_no_others(self):
        found = [name for name, thing in vars(errors).items() if inspect.isclass(thing)]
        self.assertEqual(sorted(found), sorted(NAMES + ["WireError"]))
        self.assertEqual(len(NAMES), 29)

    def test_each_is_directly_below(self):
        self.assertEqual(errors.WireError.__bases__, (ValueError,))
        for name in NAMES:
            with self.subTest(name):
                self.assertEqual(getattr(errors, name).__bases__, (errors.WireError,))

    def test_each_is_defined_in_its_file(self):
        for name in NAMES + ["WireError"]:
            self.assertEqual(getattr(errors, name).__module__, "wiresindark.errors")

    def test_each_keeps_any_value(self):
        for name in NAMES + ["WireError"]:
            kind = getattr(errors, name)
            for value in any_values():
                with self.subTest(name, value=value):
                    self.assertIs(kind(value).value, value)
                    self.assertIs(kind(value=value).value, value)

    def test_each_takes_one_argument(self):
        for name in NAMES + ["WireError"]:
            kind = getattr(errors, name)
            with self.subTest(name):
                self.assertRaises(TypeError, kind)
                self.assertRaises(TypeError, kind, 1, 2)

    def test_each_is_caught_as_itself_and_as_wire_error_alone(self):
        for name in NAMES:
            for other in NAMES:
                with self.subTest(name, other=other):
                    error = getattr(errors, name)(0)
                    self.assertEqual(isinstance(error, getattr(errors, other)), name == other)
            for above in (getattr(errors, name), errors.WireError, ValueError):
                with self.subTest(name, above=above):
                    with self.assertRaises(above) as caught:
                        raise getattr(errors, name)([name])
                    self.assertEqual(caught.exception.value, [name])

    def test_wire_error_is_none_of_them(self):
        for name in NAMES:
            self.assertNotIsInstance(errors.WireError(0), getattr(errors, name))


if __name__ == "__main__":
    unittest.main()
