"""The refusals: point [5] and the interface's moodtree/errors.py."""

import unittest

from moodtree import errors

PLAIN = ("BadTree", "BadName", "BadBox", "BadDeed", "BadWay", "TooWide", "NoStep")
WITH_ROW = ("BadRow", "NoName")


class ErrorsTest(unittest.TestCase):
    def test_mood_error_stands_under_value_error(self):
        self.assertTrue(issubclass(errors.MoodError, ValueError))
        with self.assertRaises(ValueError):
            raise errors.MoodError("refused")

    def test_each_class_stands_under_mood_error_and_none_of_the_others(self):
        for name in PLAIN + WITH_ROW:
            one = getattr(errors, name)
            self.assertTrue(issubclass(one, errors.MoodError), name)
            self.assertFalse(issubclass(errors.MoodError, one), name)
            for other_name in PLAIN + WITH_ROW:
                if other_name != name:
                    self.assertFalse(issubclass(one, getattr(errors, other_name)), (name, other_name))

    def test_plain_refusals_are_made_with_words_and_without(self):
        for name in PLAIN:
            one = getattr(errors, name)
            with self.assertRaises(one):
                raise one()
            with self.assertRaises(errors.MoodError):
                raise one("words")

    def test_refusals_of_rows_have_the_field_row(self):
        for name in WITH_ROW:
            one = getattr(errors, name)
            for row in (1, 2, 10 ** 60):
                with self.assertRaises(one) as taken:
                    raise one(row)
                self.assertEqual(taken.exception.row, row)
                self.assertIs(type(taken.exception.row), int)

    def test_refusals_of_rows_are_not_made_without_a_row(self):
        for name in WITH_ROW:
            with self.assertRaises(TypeError):
                getattr(errors, name)()

    def test_two_refusals_keep_their_own_rows(self):
        one = errors.BadRow(3)
        other = errors.BadRow(4)
        self.assertEqual((one.row, other.row), (3, 4))


if __name__ == "__main__":
    unittest.main()
