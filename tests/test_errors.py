import unittest

from fewcolours import errors

WITH_WORDS = ["NoColour", "NoSpot", "LastColour", "BadName", "Taken", "NoName"]


class Errors(unittest.TestCase):
    def test_colour_error_is_a_value_error(self):
        self.assertEqual(errors.ColourError.__bases__, (ValueError,))

    def test_each_is_straight_under_colour_error(self):
        for name in WITH_WORDS + ["BadRow"]:
            with self.subTest(name):
                self.assertEqual(getattr(errors, name).__bases__, (errors.ColourError,))

    def test_none_is_under_another(self):
        kinds = [getattr(errors, name) for name in WITH_WORDS + ["BadRow"]]
        for kind in kinds:
            self.assertEqual([other for other in kinds if issubclass(kind, other)], [kind])

    def test_made_with_words(self):
        for name in WITH_WORDS:
            kind = getattr(errors, name)
            with self.subTest(name), self.assertRaises(kind) as caught:
                raise kind("some words")
            self.assertEqual(str(caught.exception), "some words")

    def test_bad_row_has_its_row(self):
        for row in (0, 1, 99, 12345):
            self.assertEqual(errors.BadRow(row).row, row)

    def test_bad_row_is_caught_as_a_value_error(self):
        with self.assertRaises(ValueError) as caught:
            raise errors.BadRow(7)
        self.assertEqual(caught.exception.row, 7)


if __name__ == "__main__":
    unittest.main()
