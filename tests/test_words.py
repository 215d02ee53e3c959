"""Promises 0.2 (whole numbers) and 1.1 (words)."""

import unittest

from underfloor.words import is_whole, is_word, rounded

NO_NUMBERS = (True, False, None, "", "1", "word", 1.0, [], [1], (), (1,), {}, {1: 1}, b"1", object())


class IsWhole(unittest.TestCase):
    def test_whole_numbers_of_any_size(self):
        for number in (0, 1, -1, 2 ** 31, 2 ** 32 - 1, 2 ** 32, -2 ** 32, 10 ** 50, -10 ** 50):
            self.assertIs(is_whole(number), True, number)

    def test_what_is_none(self):
        for thing in NO_NUMBERS:
            self.assertIs(is_whole(thing), False, thing)


class IsWord(unittest.TestCase):
    def test_words(self):
        for number in (0, 1, 2, 2 ** 31 - 1, 2 ** 31, 2 ** 31 + 1, 2 ** 32 - 2, 2 ** 32 - 1):
            self.assertIs(is_word(number), True, number)

    def test_numbers_that_are_no_words(self):
        for number in (-1, -2, -2 ** 31, -2 ** 32, 2 ** 32, 2 ** 32 + 1, 2 ** 64, 10 ** 50, -10 ** 50):
            self.assertIs(is_word(number), False, number)

    def test_what_is_no_number(self):
        for thing in NO_NUMBERS:
            self.assertIs(is_word(thing), False, thing)


class Rounded(unittest.TestCase):
    def test_words_stay(self):
        for word in (0, 1, 2 ** 31, 2 ** 32 - 1):
            self.assertEqual(rounded(word), word)

    def test_above(self):
        self.assertEqual(rounded(2 ** 32), 0)
        self.assertEqual(rounded(2 ** 32 + 1), 1)
        self.assertEqual(rounded(2 ** 33 - 1), 2 ** 32 - 1)
        self.assertEqual(rounded((2 ** 32 - 1) ** 2), 1)
        self.assertEqual(rounded(2 ** 200 + 17), 17)

    def test_below(self):
        self.assertEqual(rounded(-1), 2 ** 32 - 1)
        self.assertEqual(rounded(-2 ** 32), 0)
        self.assertEqual(rounded(-2 ** 32 - 1), 2 ** 32 - 1)
        self.assertEqual(rounded(-2 ** 200 - 3), 2 ** 32 - 3)


if __name__ == "__main__":
    unittest.main()
