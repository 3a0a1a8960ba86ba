"""Points 3 to 5: lines, their order and their written forms."""

import itertools
import re
import unittest

from shedbook.errors import InvalidLine, Malformed
from shedbook.lines import check_line, compare_lines, line_key, read_line, sorted_lines, write_line
from tests.helpers import NO_WORDS, raises, random_line, seeded, sign, spoiled_texts

EXAMPLE = (12, "visit", "anna", 3, (("age", 40), ("town", "lund")))
SIX = tuple([(name, 1) for name in "abcdef"])
SEVEN = tuple([(name, 1) for name in "abcdefg"])
NUMBER = "(?:0|-?[1-9][0-9]{0,5})"
SMALL = "(?:0|[1-9][0-9]{0,3})"
WORD = "[a-z]{1,12}"
FIELD = "(?:" + WORD + "=(?:" + WORD + "|" + NUMBER + "))"
LINE = re.compile(" ".join([SMALL, WORD, WORD, SMALL, r"\{(" + FIELD + "(?:," + FIELD + "){0,5})?" + r"\}"]))


def is_written_line(text):
    """Say by another way than the program whether a text is the written form of a line."""
    found = LINE.fullmatch(text)
    if found is None:
        return False
    names = [field.split("=")[0] for field in (found.group(1) or "").split(",")]
    return all([names[k] < names[k + 1] for k in range(len(names) - 1)])


def with_part(index, part):
    return EXAMPLE[:index] + (part,) + EXAMPLE[index + 1:]


class CheckLine(unittest.TestCase):
    def good(self, line):
        self.assertIsNone(check_line(line), line)

    def bad(self, line):
        self.assertTrue(raises(InvalidLine, check_line, line), line)

    def test_lines(self):
        self.good(EXAMPLE)
        self.good((0, "a", "b", 0, ()))
        self.good((9999, "abcdefghijkl", "mnopqrstuvwx", 9999, SIX))
        rng = seeded(3)
        for _ in range(200):
            self.good(random_line(rng))

    def test_time_and_serial(self):
        for index in (0, 3):
            for number in (0, 1, 63, 64, 9998, 9999):
                self.good(with_part(index, number))
            for number in (-1, -9999, 10000, 10001, 999999):
                self.bad(with_part(index, number))

    def test_kind_and_subject(self):
        for index in (1, 2):
            for word in ("a", "z", "abcdefghijkl"):
                self.good(with_part(index, word))
            for text in NO_WORDS:
                self.bad(with_part(index, text))

    def test_field_names(self):
        for text in NO_WORDS:
            self.bad(with_part(4, ((text, 1),)))
            self.bad(with_part(4, tuple(sorted([("b", 1), (text, 1)]))))

    def test_field_values(self):
        for value in (0, 999999, -999999, "a", "abcdefghijkl"):
            self.good(with_part(4, (("a", value),)))
            self.good(with_part(4, (("a", 1), ("b", value), ("c", "x"))))
        for value in (1000000, -1000000) + NO_WORDS:
            self.bad(with_part(4, (("a", value),)))
            self.bad(with_part(4, (("a", 1), ("b", value))))
            self.bad(with_part(4, (("a", value), ("b", 1))))

    def test_number_of_fields(self):
        for many in range(7):
            self.good(with_part(4, SEVEN[:many]))
        self.bad(with_part(4, SEVEN))
        self.bad(with_part(4, SEVEN + (("h", 1),)))

    def test_order_of_names(self):
        for names in itertools.product("abc", repeat=3):
            fields = tuple([(name, 1) for name in names])
            if names == ("a", "b", "c"):
                self.good(with_part(4, fields))
            else:
                self.bad(with_part(4, fields))
        self.good(with_part(4, (("a", 1), ("aa", 1), ("ab", 1), ("b", 1))))
        self.bad(with_part(4, (("aa", 1), ("a", 1))))
        self.bad(with_part(4, (("a", 1), ("a", 1))))
        self.bad(with_part(4, (("a", 1), ("a", 2))))
        self.bad(with_part(4, (("a", 2), ("b", 1), ("b", 3))))


class Order(unittest.TestCase):
    # Ascending by point 4; each line is decided against the next one by another part.
    ASCENDING = [
        (2, "zz", "zz", 9, (("z", "z"),)),
        (10, "a", "zz", 9, (("z", "z"),)),
        (10, "aa", "y", 9, (("z", "z"),)),
        (10, "b", "a", 9, (("z", "z"),)),
        (10, "b", "aa", 9, (("z", "z"),)),
        (10, "b", "b", 2, (("z", "z"),)),
        (10, "b", "b", 10, ()),
        (10, "b", "b", 10, (("a", -5),)),
        (10, "b", "b", 10, (("a", 5),)),
        (10, "b", "b", 10, (("a", 10),)),
        (10, "b", "b", 10, (("a", 10), ("b", 1))),
        (10, "b", "b", 10, (("a", 10), ("b", "a"))),
        (10, "b", "b", 10, (("a", 10), ("b", "a"), ("c", 1))),
        (10, "b", "b", 10, (("a", 10), ("b", "ab"))),
        (10, "b", "b", 10, (("a", 10), ("c", -999999))),
        (10, "b", "b", 10, (("a", 999999),)),
        (10, "b", "b", 10, (("a", "a"),)),
        (10, "b", "b", 10, (("a", "a"), ("b", 1))),
        (10, "b", "b", 10, (("a", "aa"),)),
        (10, "b", "b", 10, (("a", "b"),)),
        (10, "b", "b", 10, (("aa", 1),)),
        (10, "b", "b", 10, (("b", -999999),)),
        (10, "b", "b", 11, ()),
        (11, "a", "a", 0, ()),
    ]

    def test_compare_lines(self):
        for i, first in enumerate(self.ASCENDING):
            for k, second in enumerate(self.ASCENDING):
                self.assertEqual(compare_lines(first, second), sign(i, k), (first, second))

    def test_line_key(self):
        for i, first in enumerate(self.ASCENDING):
            self.assertIs(line_key(first).__class__, tuple)
            for k, second in enumerate(self.ASCENDING):
                one, other = line_key(first), line_key(second)
                self.assertEqual((one > other) - (one < other), sign(i, k), (first, second))
                self.assertEqual(one == other, i == k)

    def test_sorted_lines(self):
        rng = seeded(4)
        for _ in range(30):
            mixed = list(self.ASCENDING) + [rng.choice(self.ASCENDING) for _ in range(10)]
            rng.shuffle(mixed)
            before = list(mixed)
            self.assertEqual(sorted_lines(mixed), self.ASCENDING)
            self.assertEqual(mixed, before)

    def test_sorted_lines_of_few(self):
        line = self.ASCENDING[3]
        self.assertEqual(sorted_lines([]), [])
        self.assertEqual(sorted_lines([line]), [line])
        self.assertEqual(sorted_lines([line, line, line]), [line])
        given = [line]
        self.assertIsNot(sorted_lines(given), given)
        self.assertIsNot(sorted_lines(given), sorted_lines(given))


class WrittenLines(unittest.TestCase):
    WRITTEN = [
        (EXAMPLE, "12 visit anna 3 {age=40,town=lund}"),
        ((0, "a", "b", 0, ()), "0 a b 0 {}"),
        ((9999, "abcdefghijkl", "z", 9999, (("a", -999999), ("b", 0), ("c", "zzzzzzzzzzzz"))),
         "9999 abcdefghijkl z 9999 {a=-999999,b=0,c=zzzzzzzzzzzz}"),
        ((7, "k", "s", 10, SIX), "7 k s 10 {a=1,b=1,c=1,d=1,e=1,f=1}"),
    ]

    def test_write_and_read(self):
        for line, text in self.WRITTEN:
            self.assertEqual(write_line(line), text)
            self.assertEqual(read_line(text), line)

    def test_many_lines(self):
        rng = seeded(5)
        for _ in range(500):
            line = random_line(rng)
            self.assertTrue(is_written_line(write_line(line)))
            self.assertEqual(read_line(write_line(line)), line)

    def test_kinds_of_values(self):
        line = read_line(self.WRITTEN[0][1])
        self.assertEqual([part.__class__ for part in line], [int, str, str, int, tuple])
        self.assertEqual([field.__class__ for field in line[4]], [tuple, tuple])
        self.assertEqual(line[4][0][1].__class__, int)

    def test_malformed(self):
        for text in [
                "", " ", "{}", "{", "}", "0", "0 a b 0", "0 a b 0 ", "0 a b 0 {", "0 a b 0 }", "0 a b 0 }{",
                "0 a b {}", "0 a b 0 {} ", " 0 a b 0 {}", "0  a b 0 {}", "0 a  b 0 {}", "0 a b  0 {}",
                "0 a b 0  {}", "0 a b 0 { }", "0 a b 0{}", "0 a b 0 {}{}", "0 a b 0 ()", "0 a b 0 {a}",
                "0 a b 0 {a=}", "0 a b 0 {=1}", "0 a b 0 {=}", "0 a b 0 {a==1}", "0 a b 0 {a=1=1}",
                "0 a b 0 {a=1,}", "0 a b 0 {,a=1}", "0 a b 0 {,}", "0 a b 0 {a=1,,b=1}", "0 a b 0 {a=1, b=1}",
                "0 a b 0 {a=1 ,b=1}", "0 a b 0 {a = 1}", "0 a b 0 {b=1,a=1}", "0 a b 0 {a=1,a=1}",
                "0 a b 0 {a=1,a=2}", "0 a b 0 {a=1,b=1,c=1,d=1,e=1,f=1,g=1}", "10000 a b 0 {}", "-1 a b 0 {}",
                "-0 a b 0 {}", "00 a b 0 {}", "0 a b 10000 {}", "0 a b -1 {}", "0 a b 00 {}", "+1 a b 0 {}",
                "0 A b 0 {}", "0 a B 0 {}", "0 1 b 0 {}", "0 a 1 0 {}", "0 abcdefghijklm b 0 {}",
                "0 a abcdefghijklm 0 {}", "0 a b 0 {abcdefghijklm=1}", "0 a b 0 {a=abcdefghijklm}",
                "0 a b 0 {a=1000000}", "0 a b 0 {a=-1000000}", "0 a b 0 {a=-0}", "0 a b 0 {a=01}",
                "0 a b 0 {a=+1}", "0 a b 0 {A=1}", "0 a b 0 {a=A}", "0 a b 0 {1=1}", "0 a b 0 {a=\"b\"}",
                "a a b 0 {}", "0 a b a {}", "0 a b 0 {}x", "x0 a b 0 {}", "0 a b 0 {a:1}", "0 a b 0 0 {}",
                "1" * 400, "{" * 400, "0 a b 0 {" + "a=1," * 90 + "}"]:
            self.assertTrue(raises(Malformed, read_line, text), text)

    def test_spoiled(self):
        accepted = 0
        for _, text in self.WRITTEN:
            for spoiled in spoiled_texts(text):
                if is_written_line(spoiled):
                    accepted += 1
                    self.assertEqual(write_line(read_line(spoiled)), spoiled)
                else:
                    self.assertTrue(raises(Malformed, read_line, spoiled), spoiled)
        self.assertGreater(accepted, 100)


if __name__ == "__main__":
    unittest.main()
