"""The functions of lastslip/words.py."""

import unittest
from itertools import combinations

from lastslip.words import is_alphabet, is_number, is_word, words_of

from samples import NOTHINGS, NUMBERS, WRONG_STRINGS

LETTERS = "abcdefghijklmnopqrstuvwxyz"


class NumbersTest(unittest.TestCase):
    def test_numbers(self):
        for value in range(-3, 9):
            self.assertIs(is_number(value, 0, 5), 0 <= value <= 5)
        self.assertIs(is_number(7, 7, 7), True)
        self.assertIs(is_number(1, 2, 0), False)
        self.assertIs(is_number(-(10 ** 29), -(10 ** 29), 0), True)
        self.assertIs(is_number(10 ** 18, 0, 10 ** 18), True)
        self.assertIs(is_number(10 ** 18 + 1, 0, 10 ** 18), False)

    def test_other_values(self):
        for value in [*NOTHINGS, *WRONG_STRINGS, "", "0", [0], (1,)]:
            self.assertIs(is_number(value, -1, 5), False, value)

    def test_by_name(self):
        self.assertIs(is_number(value=3, least=3, most=4), True)


class WordsTest(unittest.TestCase):
    def test_words(self):
        for value in ["", "a", "z", "hello", "zzz", LETTERS, "a" * 200]:
            self.assertIs(is_word(value), True, value)

    def test_other_values(self):
        for value in [*NOTHINGS, *NUMBERS, *WRONG_STRINGS, "\xe9", "\xdf", "a" * 201, [""], ("ab",)]:
            self.assertIs(is_word(value), False, value)

    def test_most(self):
        for most in (0, 1, 3, 200, 250, 10000):
            self.assertIs(is_word("b" * most, most), True)
            self.assertIs(is_word("b" * (most + 1), most), False)
            self.assertIs(is_word(value="b" * (most + 1), most=most), False)
        self.assertIs(is_word("b" * 201, 201), True)

    def test_each_letter_counts(self):
        for at in range(5):
            self.assertIs(is_word("abcde"[:at] + "B" + "abcde"[at:]), False)


class AlphabetsTest(unittest.TestCase):
    def test_all_alphabets(self):
        for many in (1, 2, 3):
            for letters in combinations(LETTERS, many):
                self.assertIs(is_alphabet("".join(letters)), True)
                if many > 1:
                    self.assertIs(is_alphabet("".join(letters[::-1])), False)

    def test_wrong_ones(self):
        for value in ["", "aa", "ba", "abb", "aab", "bab", "acb", "abcd", *WRONG_STRINGS, *NOTHINGS, *NUMBERS,
                      ("a", "b"), ["a", "b"], "ab\n", " ab", "\xe9"]:
            self.assertIs(is_alphabet(value), False, value)


class WordsOfTest(unittest.TestCase):
    def test_order(self):
        self.assertEqual(words_of("ab", 2), ["", "a", "b", "aa", "ab", "ba", "bb"])
        self.assertEqual(words_of("xyz", 1), ["", "x", "y", "z"])
        for alphabet in ("c", "ad", "abc"):
            self.assertEqual(words_of(alphabet, 0), [""])
            for most in (1, 2, 3, 5):
                words = words_of(alphabet, most)
                self.assertEqual(words, sorted(words, key=lambda word: (len(word), word)))
                self.assertEqual(len(set(words)), len(words))
                self.assertEqual(len(words), sum(len(alphabet) ** many for many in range(most + 1)))
                self.assertTrue(all(set(word) <= set(alphabet) for word in words))

    def test_words_have_at_most_200_letters(self):
        self.assertEqual(words_of("a", 200), ["a" * many for many in range(201)])
        self.assertEqual(words_of("a", 201), words_of("a", 200))

    def test_the_list_is_new(self):
        words_of("ab", 1).append("x")
        self.assertEqual(words_of(alphabet="ab", most=1), ["", "a", "b"])


if __name__ == "__main__":
    unittest.main()
