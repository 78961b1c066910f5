"""Point 3: the error classes."""

import unittest

from stridelanes import errors
from stridelanes.errors import StrideError

NAMES = [
    "InvalidGuard", "InvalidLanes", "InvalidStatement", "InvalidBarrier", "InvalidAccess", "InvalidNumber",
    "InvalidArray", "InvalidSchedule", "UnlikeLanes", "Racing", "NotPlain", "NothingToUndo", "Unreadable",
]


class ErrorsTest(unittest.TestCase):
    def test_stride_error_is_a_direct_subclass_of_value_error(self):
        self.assertEqual(StrideError.__bases__, (ValueError,))

    def test_the_others_are_direct_subclasses_of_stride_error(self):
        self.assertEqual(len(set(NAMES)), 13)
        for name in NAMES:
            with self.subTest(name):
                self.assertEqual(getattr(errors, name).__bases__, (StrideError,))

    def test_no_other_class_is_a_subclass_of_another(self):
        for one in NAMES:
            for other in NAMES:
                if one != other:
                    with self.subTest(one=one, other=other):
                        self.assertFalse(issubclass(getattr(errors, one), getattr(errors, other)))

    def test_each_class_is_defined_in_this_file(self):
        for name in NAMES + ["StrideError"]:
            with self.subTest(name):
                self.assertEqual(getattr(errors, name).__module__, "stridelanes.errors")
                self.assertEqual(getattr(errors, name).__name__, name)

    def test_value_by_position_and_by_name(self):
        for name in NAMES + ["StrideError"]:
            for value in (None, 0, -10 ** 40, "text", (1, 2), (0, 3, 0, 0)):
                with self.subTest(name=name, value=value):
                    self.assertEqual(getattr(errors, name)(value).value, value)
                    self.assertEqual(getattr(errors, name)(value=value).value, value)

    def test_exactly_one_argument(self):
        for name in NAMES + ["StrideError"]:
            with self.subTest(name):
                with self.assertRaises(TypeError):
                    getattr(errors, name)()
                with self.assertRaises(TypeError):
                    getattr(errors, name)(1, 2)
                with self.assertRaises(TypeError):
                    getattr(errors, name)(other=1)

    def test_caught_as_stride_error_and_as_value_error(self):
        for name in NAMES:
            with self.subTest(name):
                with self.assertRaises(StrideError) as caught:
                    raise getattr(errors, name)(7)
                self.assertEqual(caught.exception.value, 7)
                with self.assertRaises(ValueError):
                    raise getattr(errors, name)(7)


if __name__ == "__main__":
    unittest.main()
