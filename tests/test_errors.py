"""The refusals of shelvesmeet.errors."""

import unittest

from shelvesmeet import errors

NAMES = ["BadShelf", "BadShelves", "BadLooks", "BadCount", "BadFar", "BadBits", "BadLists", "BadPlace"]


class Refusals(unittest.TestCase):
    def test_shelf_error_is_straight_under_value_error(self):
        self.assertEqual(errors.ShelfError.__bases__, (ValueError,))

    def test_each_refusal_is_straight_under_shelf_error(self):
        for name in NAMES:
            with self.subTest(name):
                self.assertEqual(getattr(errors, name).__bases__, (errors.ShelfError,))

    def test_each_refusal_can_be_raised_with_words(self):
        for name in NAMES:
            with self.subTest(name), self.assertRaises(errors.ShelfError) as caught:
                raise getattr(errors, name)("words")
            self.assertEqual(str(caught.exception), "words")


if __name__ == "__main__":
    unittest.main()
