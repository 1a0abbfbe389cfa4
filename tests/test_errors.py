import unittest

from twinshelves.errors import NoFile, NoName, NoWords, NoWriting, ShelfError

REFUSALS = (NoFile, NoName, NoWords, NoWriting)


class Errors(unittest.TestCase):
    def test_each_stands_under_shelf_error_and_value_error(self):
        self.assertTrue(issubclass(ShelfError, ValueError))
        for refusal in REFUSALS:
            self.assertTrue(issubclass(refusal, ShelfError), refusal)
            self.assertTrue(issubclass(refusal, ValueError), refusal)
            self.assertIsNot(refusal, ShelfError)

    def test_none_of_the_four_stands_under_another(self):
        for one in REFUSALS:
            for other in REFUSALS:
                self.assertEqual(issubclass(one, other), one is other, (one, other))

    def test_each_is_raised_with_words_and_taken_by_its_own_name(self):
        for refusal in REFUSALS:
            for taken in (refusal, ShelfError, ValueError):
                with self.assertRaises(taken):
                    raise refusal("words")


if __name__ == "__main__":
    unittest.main()
