"""[3]: each refusal's class, what it stands under, and its text."""

import unittest

from heaptrees import errors

NAMES = ["NoTree", "NoLetter", "NoFit", "TooMany", "NoNumber", "NoText", "NoName", "NoRow"]


class Errors(unittest.TestCase):
    def test_heap_error_stands_straight_under_value_error(self):
        self.assertEqual(errors.HeapError.__bases__, (ValueError,))

    def test_each_class_stands_straight_under_heap_error(self):
        for name in NAMES:
            with self.subTest(name):
                self.assertEqual(getattr(errors, name).__bases__, (errors.HeapError,))

    def test_none_stands_under_another_one(self):
        for one in NAMES:
            for other in NAMES:
                if one != other:
                    with self.subTest(one=one, other=other):
                        self.assertFalse(issubclass(getattr(errors, one), getattr(errors, other)))

    def test_each_is_made_with_one_text_that_str_tells(self):
        for name in ["HeapError", *NAMES]:
            for text in ["why it was refused", "", "two\nlines", "'quoted'"]:
                with self.subTest(name=name, text=text):
                    self.assertEqual(str(getattr(errors, name)(text)), text)

    def test_each_is_caught_as_heap_error_and_as_value_error(self):
        for name in NAMES:
            for caught in (errors.HeapError, ValueError, getattr(errors, name)):
                with self.subTest(name=name, caught=caught):
                    with self.assertRaises(caught):
                        raise getattr(errors, name)("refused")

    def test_the_classes_are_these_nine_and_defined_in_the_file(self):
        found = [name for name, thing in vars(errors).items() if isinstance(thing, type)]
        self.assertEqual(sorted(found), sorted(["HeapError", *NAMES]))
        for name in found:
            self.assertEqual(getattr(errors, name).__module__, "heaptrees.errors")


if __name__ == "__main__":
    unittest.main()
