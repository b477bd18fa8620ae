"""The interface, errors.py, and [2]: the refusals and how they stand."""

import unittest

from partedweb.errors import BadRow, NoPlace, NoPost, PartError, TooMany


class Refusals(unittest.TestCase):
    def test_each_stands_straight_under_part_error(self):
        self.assertEqual(PartError.__bases__, (ValueError,))
        for refusal in (TooMany, NoPost, NoPlace, BadRow):
            self.assertEqual(refusal.__bases__, (PartError,))

    def test_none_is_taken_for_another(self):
        made = [TooMany("many"), NoPost("post"), NoPlace("place"), BadRow(0)]
        for refusal in (TooMany, NoPost, NoPlace, BadRow):
            self.assertEqual(len([error for error in made if isinstance(error, refusal)]), 1)

    def test_those_with_words_are_made_with_words(self):
        for refusal in (PartError, TooMany, NoPost, NoPlace):
            with self.assertRaises(PartError) as taken:
                raise refusal("these words")
            self.assertIs(taken.exception.__class__, refusal)
            self.assertEqual(str(taken.exception), "these words")

    def test_bad_row_has_its_row(self):
        for row in (0, 1, 100):
            with self.assertRaises(ValueError) as taken:
                raise BadRow(row)
            self.assertIs(taken.exception.__class__, BadRow)
            self.assertEqual(taken.exception.row, row)
        self.assertEqual(BadRow(row=7).row, 7)


if __name__ == "__main__":
    unittest.main()
