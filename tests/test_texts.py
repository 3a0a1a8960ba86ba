"""What the written forms have in common."""

import unittest

from shedbook.errors import Malformed
from shedbook.texts import is_ascending, read_bracketed, read_value, write_bracketed, write_value
from tests.helpers import NO_WORDS, NUMBERS, WORDS, raises


class Values(unittest.TestCase):
    def test_write_and_read(self):
        for value in NUMBERS + WORDS:
            self.assertEqual(write_value(value), str(value))
            self.assertEqual(read_value(str(value)), value)

    def test_malformed(self):
        for text in NO_WORDS + ("1000000", "-1000000", "-0", "01", "+1", "1 ", '"a"'):
            self.assertTrue(raises(Malformed, read_value, text), text)


class Brackets(unittest.TestCase):
    def test_write_and_read(self):
        for items, text in (([], "()"), (["a"], "(a)"), (["a", "", "b=1"], "(a,,b=1)")):
            self.assertEqual(write_bracketed("(", items, ")"), text)
            self.assertEqual(read_bracketed("(", text, ")"), items)

    def test_malformed(self):
        for text in ("", "(", ")", ")(", "a", "(a", "a)", "a()", "()a", "{}"):
            self.assertTrue(raises(Malformed, read_bracketed, "(", text, ")"), text)


class Ascending(unittest.TestCase):
    def test_is_ascending(self):
        for words, wanted in (([], True), (["b"], True), (["a", "b"], True), (["a", "aa", "b"], True),
                              (["b", "a"], False), (["a", "a"], False), (["a", "c", "b"], False)):
            self.assertIs(is_ascending(words), wanted, words)


if __name__ == "__main__":
    unittest.main()
