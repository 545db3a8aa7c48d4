"""Tests of the interface's section tilepushes/errors.py and of point 5's first sentence."""

import unittest

from tilepushes import errors

WITH_TEXT = [
    "InvalidRow", "InvalidRuns", "InvalidSide", "InvalidPushes", "InvalidLevel", "InvalidNumber", "InvalidIndex",
    "InvalidText", "InvalidCommand", "NotPushes", "NoMountain", "NotBefore", "NothingToUndo", "NoTray",
]
WITH_FIELD = [("TooLarge", "limit"), ("TooFew", "needed")]


class ErrorTests(unittest.TestCase):
    def test_tile_error_is_a_value_error(self):
        self.assertEqual(errors.TileError.__bases__, (ValueError,))

    def test_every_class_stands_directly_under_tile_error(self):
        for name in WITH_TEXT + [name for name, field in WITH_FIELD]:
            with self.subTest(name):
                found = getattr(errors, name)
                self.assertEqual(found.__bases__, (errors.TileError,))
                self.assertEqual((found.__name__, found.__module__), (name, "tilepushes.errors"))

    def test_there_are_no_other_classes(self):
        found = {name for name, value in vars(errors).items() if isinstance(value, type)}
        self.assertEqual(found, {"TileError", *WITH_TEXT, *[name for name, field in WITH_FIELD]})

    def test_classes_with_a_text(self):
        for name in ["TileError"] + WITH_TEXT:
            with self.subTest(name):
                with self.assertRaises(ValueError) as caught:
                    raise getattr(errors, name)("why")
                self.assertEqual(str(caught.exception), "why")

    def test_classes_with_a_field(self):
        for name, field in WITH_FIELD:
            for value in [0, 4, 20, 200, 1000, 10 ** 30]:
                with self.subTest(name, value=value):
                    with self.assertRaises(errors.TileError) as caught:
                        raise getattr(errors, name)(value)
                    self.assertEqual(getattr(caught.exception, field), value)
                    self.assertEqual(vars(caught.exception), {field: value})

    def test_fields_of_two_errors_are_apart(self):
        one, other = errors.TooLarge(4), errors.TooLarge(20)
        self.assertEqual((one.limit, other.limit), (4, 20))
        few, fewer = errors.TooFew(4), errors.TooFew(3)
        self.assertEqual((few.needed, fewer.needed), (4, 3))

    def test_no_error_is_caught_as_another_one(self):
        names = WITH_TEXT + [name for name, field in WITH_FIELD]
        for name in names:
            for other in names:
                if name != other:
                    self.assertFalse(issubclass(getattr(errors, name), getattr(errors, other)))


if __name__ == "__main__":
    unittest.main()
