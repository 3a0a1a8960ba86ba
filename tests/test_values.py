"""Point 2, and the integers of point 5."""

import unittest

from shedbook.errors import Malformed
from shedbook.values import (compare_values, is_number, is_word, read_integer, value_key,
                             write_integer)
from tests.helpers import LETTERS, NO_WORDS, raises, seeded, sign, spoiled_texts

# Ascending by point 2.
ASCENDING = [-1000000, -999999, -999998, -100, -20, -3, -1, 0, 1, 2, 10, 99, 100, 999998, 999999,
             1000000, "a", "aa", "aaaaaaaaaaaa", "ab", "abc", "abd", "b", "ba", "lund", "lunda",
             "z", "zzzzzzzzzzzz"]


class WordsAndNumbers(unittest.TestCase):
    def test_words(self):
        for word in ["a", "z", "m", "ab", "zz", "abcdefghijk", "abcdefghijkl", "nopqrstuvwxy", "time"]:
            self.assertIs(is_word(word), True, word)
        for letter in LETTERS:
            self.assertIs(is_word(letter), True, letter)

    def test_no_words(self):
        for text in NO_WORDS + ("abcdefghijklm", "a" * 100, "A", "Z", "abC", "0", "9", "a0", "_", "-1"):
            self.assertIs(is_word(text), False, text)
        for code in range(ord(" "), ord("~") + 1):
            mark = chr(code)
            self.assertIs(is_word(mark), mark in LETTERS, mark)
            self.assertIs(is_word("a" + mark), mark in LETTERS, mark)
            self.assertIs(is_word(mark + "a"), mark in LETTERS, mark)

    def test_an_integer_is_no_word(self):
        for number in [0, 1, -1, 7, 999999]:
            self.assertIs(is_word(number), False, number)

    def test_numbers(self):
        for number in [0, 1, -1, 999999, -999999, 999998, -999998, 12345]:
            self.assertIs(is_number(number), True, number)
        for number in [1000000, -1000000, 1000001, 10 ** 30, -10 ** 30]:
            self.assertIs(is_number(number), False, number)

    def test_a_string_is_no_number(self):
        for text in ["", "0", "1", "-1", "a", "lund"]:
            self.assertIs(is_number(text), False, text)


class Order(unittest.TestCase):
    def test_compare_values(self):
        for i, first in enumerate(ASCENDING):
            for k, second in enumerate(ASCENDING):
                self.assertEqual(compare_values(first, second), sign(i, k), (first, second))

    def test_value_key(self):
        for i, first in enumerate(ASCENDING):
            self.assertIs(value_key(first).__class__, tuple)
            for k, second in enumerate(ASCENDING):
                one, other = value_key(first), value_key(second)
                self.assertEqual((one > other) - (one < other), sign(i, k), (first, second))
                self.assertEqual(one == other, i == k, (first, second))

    def test_sorting(self):
        rng = seeded(2)
        for _ in range(20):
            mixed = list(ASCENDING)
            rng.shuffle(mixed)
            self.assertEqual(sorted(mixed, key=value_key), ASCENDING)


class WrittenIntegers(unittest.TestCase):
    WRITTEN = [(0, "0"), (1, "1"), (-1, "-1"), (9, "9"), (10, "10"), (-10, "-10"), (100, "100"),
               (-100, "-100"), (9999, "9999"), (999999, "999999"), (-999999, "-999999"),
               (1234567890, "1234567890"), (-1234567890, "-1234567890"), (-9999999999, "-9999999999"),
               (12345678901, "12345678901"), (100000000000, "100000000000")]

    def test_write_and_read(self):
        for number, text in self.WRITTEN:
            self.assertEqual(write_integer(number), text)
            self.assertEqual(read_integer(text), number)
            self.assertIs(read_integer(text).__class__, int)

    def test_many_integers(self):
        for number in list(range(-1100, 1101)) + [sign * 10 ** k for k in range(11) for sign in (1, -1)]:
            self.assertEqual(read_integer(write_integer(number)), number)

    def test_malformed(self):
        for text in ["", "-", "--", "--1", "-0", "+0", "+1", "00", "01", "-01", "007", "0-", "1-", "1-1",
                     " 1", "1 ", " ", "1 1", "a1", "1a", "a", "-a", "1.0", "1_0", "0x1", "1e3", "1,0",
                     "-00", "- 1", "000000000000"]:
            self.assertTrue(raises(Malformed, read_integer, text), text)

    def test_spoiled(self):
        accepted = 0
        for _, text in self.WRITTEN[:14]:
            for spoiled in spoiled_texts(text):
                body = spoiled[1:] if spoiled[:1] == "-" else spoiled
                is_plain = body != "" and all([mark in "0123456789" for mark in body])
                if is_plain and (body[0] != "0" or spoiled == "0"):
                    accepted += 1
                    self.assertEqual(write_integer(read_integer(spoiled)), spoiled)
                else:
                    self.assertTrue(raises(Malformed, read_integer, spoiled), spoiled)
        self.assertGreater(accepted, 100)


if __name__ == "__main__":
    unittest.main()
