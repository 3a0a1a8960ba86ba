"""Points 18 to 21: segments and their packed forms."""

import unittest

from shedbook.errors import Malformed
from shedbook.lines import check_line, sorted_lines
from shedbook.segments import (pack_integer, pack_natural, pack_segment, pack_value, pack_word,
                               segment_of, split_segments, unpack_segment)
from tests.helpers import LETTERS, NUMBERS, raises, random_line, seeded, spoiled_lists
from tests.packing import expected_pack, natural, raw, word

SEGMENT = [
    (64, "visit", "anna", 3, (("age", 40), ("town", "lund"))),
    (64, "visit", "bo", 4, ()),
    (70, "sale", "bo", 200, (("age", -1),)),
]
# The words are age, anna, bo, lund, sale, town and visit.
PACKED = ([3, 7]
          + [3, 1, 7, 5] + [4, 1, 14, 14, 1] + [2, 2, 15] + [4, 12, 21, 14, 4] + [4, 19, 1, 12, 5]
          + [4, 20, 15, 23, 14] + [5, 22, 9, 19, 9, 20]
          + [64, 0, 6]
          + [6, 2, 4, 1]
          + [1, 1, 2, 2]
          + [3, 4, 200, 1]
          + [2, 0, 0, 80, 5, 1, 3] + [0] + [1, 0, 0, 1])
SMALL = [(0, "a", "b", 0, ())]


def random_segment(rng, many):
    low = rng.choice([0, 64, 128, 6400, 9984])
    lines = []
    for _ in range(many):
        line = random_line(rng)
        lines.append((min(low + rng.randint(0, rng.choice([2, 63])), 9999),) + line[1:])
    return sorted_lines(lines)


class Parts(unittest.TestCase):
    def test_segment_of(self):
        for time, wanted in ((0, 0), (1, 0), (63, 0), (64, 1), (65, 1), (127, 1), (128, 2), (9983, 155),
                             (9984, 156), (9999, 156)):
            self.assertEqual(segment_of((time, "a", "b", 7, ())), wanted, time)

    def test_pack_natural(self):
        for number, wanted in ((0, [0]), (1, [1]), (127, [127]), (128, [128, 1]), (129, [129, 1]),
                               (255, [255, 1]), (256, [128, 2]), (300, [172, 2]), (16383, [255, 127]),
                               (16384, [128, 128, 1]), (2 ** 70, [128] * 10 + [1]),
                               (2 ** 70 - 1, [255] * 9 + [127])):
            self.assertEqual(pack_natural(number), wanted, number)

    def test_pack_natural_of_many_bits(self):
        for bits in (8, 31, 64, 200, 1000):
            for number in (2 ** bits - 1, 2 ** bits, 2 ** bits + 1, 3 ** bits):
                data = pack_natural(number)
                self.assertEqual(data, natural(number))
                self.assertEqual(sum([(byte & 127) << (7 * k) for k, byte in enumerate(data)]), number)
                self.assertTrue(all([byte >= 128 for byte in data[:-1]]))
                self.assertTrue(0 < data[-1] < 128)

    def test_pack_integer(self):
        for number, wanted in ((0, [0]), (-1, [1]), (1, [2]), (-2, [3]), (2, [4]), (63, [126]), (-64, [127]),
                               (64, [128, 1]), (-65, [129, 1]), (999999, natural(1999998)),
                               (-999999, natural(1999997)), (10 ** 20, natural(2 * 10 ** 20))):
            self.assertEqual(pack_integer(number), wanted, number)

    def test_pack_word(self):
        self.assertEqual(pack_word("a"), [1, 1])
        self.assertEqual(pack_word("z"), [1, 26])
        self.assertEqual(pack_word("visit"), [5, 22, 9, 19, 9, 20])
        self.assertEqual(pack_word("abcdefghijkl"), [12, 1, 2, 3, 4, 5, 6, 7, 8, 9, 10, 11, 12])
        for letter in LETTERS:
            self.assertEqual(pack_word(letter), word(letter))

    def test_pack_value(self):
        self.assertEqual(pack_value(0), [0, 0])
        self.assertEqual(pack_value(-1), [0, 1])
        self.assertEqual(pack_value(64), [0, 128, 1])
        self.assertEqual(pack_value("ab"), [1, 2, 1, 2])
        for number in NUMBERS:
            self.assertEqual(pack_value(number), [0] + pack_integer(number))

    def test_returned_lists_are_new(self):
        for function, argument in ((pack_natural, 0), (pack_integer, 0), (pack_word, "a"), (pack_value, 0)):
            first = function(argument)
            wanted = list(first)
            first.append(9)
            self.assertEqual(function(argument), wanted)


class PackSegment(unittest.TestCase):
    def test_one_line(self):
        self.assertEqual(pack_segment(SMALL), [1, 2, 1, 1, 1, 2, 0, 0, 1, 1, 1, 0, 0])
        line = (9999, "a", "a", 9999, (("a", "a"),))
        self.assertEqual(pack_segment([line]), [1, 1, 1, 1, 143, 78, 0, 1, 0, 1, 143, 78, 1, 0, 1, 0])

    def test_example(self):
        self.assertEqual(pack_segment(SEGMENT), PACKED)
        self.assertEqual(unpack_segment(PACKED), SEGMENT)

    def test_runs(self):
        kinds = ["a", "a", "b", "a", "a", "a"]
        lines = [(time, kinds[time], "b", 5, ()) for time in range(6)]
        self.assertEqual(pack_segment(lines),
                         [6, 2, 1, 1, 1, 2] + [0, 1, 1, 1, 1, 1] + [0, 2, 1, 1, 0, 3] + [1, 6] + [5] * 6 + [0] * 6)
        lines = [(time, "b", kinds[time], 5, ()) for time in range(6)]
        self.assertEqual(pack_segment(lines),
                         [6, 2, 1, 1, 1, 2] + [0, 1, 1, 1, 1, 1] + [1, 6] + [0, 2, 1, 1, 0, 3] + [5] * 6 + [0] * 6)

    def test_against_the_words(self):
        rng = seeded(20)
        for _ in range(200):
            lines = random_segment(rng, rng.randint(1, 12))
            before = list(lines)
            data = pack_segment(lines)
            self.assertEqual(data, expected_pack(lines))
            self.assertTrue(all([0 <= byte <= 255 for byte in data]))
            self.assertEqual(unpack_segment(data), lines)
            self.assertEqual(lines, before)

    def test_many_lines_and_words(self):
        lines = []
        for k in range(1000):
            text = LETTERS[k % 26] + LETTERS[k // 26 % 26] + LETTERS[k // 676]
            lines.append((k % 64, "k", text, k, (("name", text), ("number", -k))))
        lines = sorted_lines(lines)
        data = pack_segment(lines)
        self.assertEqual(data, expected_pack(lines))
        self.assertEqual(unpack_segment(data), lines)

    def test_packing_gives_new_lists(self):
        data = pack_segment(SEGMENT)
        data.append(0)
        self.assertEqual(pack_segment(SEGMENT), PACKED)
        given = list(PACKED)
        lines = unpack_segment(given)
        lines.append(1)
        self.assertEqual(unpack_segment(given), SEGMENT)
        self.assertEqual(given, PACKED)


class UnpackSegment(unittest.TestCase):
    def bad(self, data):
        self.assertTrue(raises(Malformed, unpack_segment, data), data)

    def good(self, data, lines):
        self.assertEqual(unpack_segment(data), lines)
        self.assertEqual(expected_pack(lines), data)

    def test_spoiled(self):
        few = [0, 1, 2, 3, 26, 27, 63, 64, 127, 128, 129, 255]
        for lines, inserts in ((SMALL, list(range(256))), (SEGMENT, few)):
            accepted = 0
            for data in spoiled_lists(expected_pack(lines), inserts):
                try:
                    found = unpack_segment(data)
                except Malformed:
                    continue
                accepted += 1
                for line in found:
                    check_line(line)
                self.assertEqual(sorted_lines(found), found)
                self.assertEqual(len({segment_of(line) for line in found}), 1)
                self.assertEqual(expected_pack(found), data)
            self.assertGreater(accepted, 10)

    def test_cut_and_longer(self):
        for data in (PACKED, expected_pack(SMALL)):
            for k in range(len(data)):
                self.bad(data[:k])
            for byte in range(256):
                self.bad(data + [byte])
            self.bad(data + data)
        self.bad([])

    def test_superfluous_digits(self):
        for data in (PACKED, expected_pack(SMALL)):
            for k in range(len(data)):
                if data[k] < 128:
                    self.bad(data[:k] + [data[k] + 128, 0] + data[k + 1:])
                    self.bad(data[:k] + [data[k] + 128, 128, 0] + data[k + 1:])

    def test_plain(self):
        self.good(raw(["a", "b"], [5], [(0, 1)], [(1, 1)], [7], [[]]), [(5, "a", "b", 7, ())])
        self.good(raw(["a", "b"], [5, 0], [(0, 2)], [(1, 2)], [7, 8], [[], [(0, 1, 1)]]),
                  [(5, "a", "b", 7, ()), (5, "a", "b", 8, (("a", "b"),))])

    def test_no_lines(self):
        self.bad([0, 0])
        self.bad([0])
        self.bad(raw(["a"], [], [], [], [], []))

    def test_words(self):
        self.bad(raw(["b", "a"], [5], [(0, 1)], [(1, 1)], [7], [[]]))
        self.bad(raw(["a", "a"], [5], [(0, 1)], [(1, 1)], [7], [[]]))
        self.bad(raw(["a", "b", "c"], [5], [(0, 1)], [(1, 1)], [7], [[]]))
        self.bad(raw(["a", "b"], [5], [(0, 1)], [(0, 1)], [7], [[]]))
        self.bad(raw(["", "b"], [5], [(0, 1)], [(1, 1)], [7], [[]]))
        self.good(raw(["a", "b" * 12], [5], [(0, 1)], [(1, 1)], [7], [[]]), [(5, "a", "b" * 12, 7, ())])
        self.bad(raw(["a", "b" * 13], [5], [(0, 1)], [(1, 1)], [7], [[]]))
        data = raw(["a", "b"], [5], [(0, 1)], [(1, 1)], [7], [[]])
        for code in (0, 27, 97, 128, 255):
            self.bad(data[:5] + [code] + data[6:])

    def test_places(self):
        self.bad(raw(["a"], [5], [(1, 1)], [(0, 1)], [7], [[]]))
        self.bad(raw(["a"], [5], [(0, 1)], [(1, 1)], [7], [[]]))
        self.bad(raw(["a"], [5], [(0, 1)], [(0, 1)], [7], [[(1, 0, 0)]]))
        self.bad(raw(["a"], [5], [(0, 1)], [(0, 1)], [7], [[(0, 1, 1)]]))
        self.bad(raw([], [5], [(0, 1)], [(0, 1)], [7], [[]]))

    def test_runs(self):
        def two(kinds, subjects):
            return raw(["a", "b"], [5, 1], kinds, subjects, [7, 7], [[], []])
        self.good(two([(0, 2)], [(1, 2)]), [(5, "a", "b", 7, ()), (6, "a", "b", 7, ())])
        self.good(two([(0, 1), (1, 1)], [(1, 2)]), [(5, "a", "b", 7, ()), (6, "b", "b", 7, ())])
        self.bad(two([(0, 1), (0, 1)], [(1, 2)]))
        self.bad(two([(0, 2)], [(1, 1), (1, 1)]))
        self.bad(two([(0, 2), (0, 0)], [(1, 2)]))
        self.bad(two([(0, 0), (0, 2)], [(1, 2)]))
        self.bad(two([(1, 0), (0, 2)], [(1, 2)]))
        self.bad(two([(0, 3)], [(1, 2)]))
        self.bad(two([(0, 2)], [(1, 3)]))
        self.bad(two([(0, 1), (1, 2)], [(1, 2)]))
        self.bad(two([(0, 1)], [(1, 2)]))
        self.bad(two([(0, 2 ** 60)], [(1, 2)]))

    def test_lines_out_of_order(self):
        def two(serials, fields):
            return raw(["a", "b"], [5, 0], [(0, 2)], [(1, 2)], serials, fields)
        self.good(two([7, 8], [[], []]), [(5, "a", "b", 7, ()), (5, "a", "b", 8, ())])
        self.bad(two([8, 7], [[], []]))
        self.bad(two([7, 7], [[], []]))
        self.bad(two([7, 7], [[(0, 0, 1)], []]))
        self.bad(two([7, 7], [[(0, 0, 4)], [(0, 0, 2)]]))
        self.bad(two([7, 7], [[(0, 1, 0)], [(0, 0, 2)]]))
        self.good(two([7, 7], [[(0, 0, 2)], [(0, 1, 0)]]),
                  [(5, "a", "b", 7, (("a", 1),)), (5, "a", "b", 7, (("a", "a"),))])
        self.bad(raw(["a", "b"], [5, 0], [(1, 1), (0, 1)], [(1, 2)], [7, 7], [[], []]))
        self.bad(raw(["a", "b"], [5, 0], [(0, 2)], [(1, 1), (0, 1)], [7, 7], [[], []]))

    def test_lines_of_another_segment(self):
        def two(first, step):
            return raw(["a", "b"], [first, step], [(0, 2)], [(1, 2)], [7, 7], [[], []])
        self.good(two(0, 63), [(0, "a", "b", 7, ()), (63, "a", "b", 7, ())])
        self.good(two(64, 63), [(64, "a", "b", 7, ()), (127, "a", "b", 7, ())])
        self.bad(two(0, 64))
        self.bad(two(63, 1))
        self.bad(two(127, 1))
        self.bad(two(0, 9999))

    def test_parts_out_of_bounds(self):
        def one(time, serial, fields):
            return raw(["a"], [time], [(0, 1)], [(0, 1)], [serial], [fields])
        self.good(one(9999, 9999, []), [(9999, "a", "a", 9999, ())])
        self.bad(one(10000, 0, []))
        self.bad(one(0, 10000, []))
        self.good(one(0, 0, [(0, 0, 1999998)]), [(0, "a", "a", 0, (("a", 999999),))])
        self.good(one(0, 0, [(0, 0, 1999997)]), [(0, "a", "a", 0, (("a", -999999),))])
        self.bad(one(0, 0, [(0, 0, 1999999)]))
        self.bad(one(0, 0, [(0, 0, 2000000)]))
        for sort in (2, 3, 127, 128, 255):
            self.bad(one(0, 0, [(0, sort, 0)]))
        self.bad(one(0, 0, [(0, 0, 0), (0, 0, 0)]))

    def test_fields(self):
        def one(fields):
            return raw(list("abcdefg"), [0], [(0, 1)], [(6, 1)], [0], [fields])
        six = [(place, 0, 2) for place in range(6)]
        self.good(one(six), [(0, "a", "g", 0, tuple([(name, 1) for name in "abcdef"]))])
        self.bad(one(six + [(6, 0, 2)]))
        self.bad(one(six[1:2] + six[:1] + six[2:]))

    def test_counts(self):
        for many in (0, 2, 127, 2 ** 30, 2 ** 69, 2 ** 100):
            self.bad(raw(["a", "b"], [5], [(0, 1)], [(1, 1)], [7], [[]], many))
        self.bad([1] + natural(2 ** 40) + [1, 1])

    def test_large_lists(self):
        for byte in (0, 1, 127, 128, 255):
            self.bad([byte] * 200000)
            self.bad([3, 0] + [byte] * 200000)
        self.bad(natural(200000) + [0] * 200000)
        self.bad(natural(200000) + [1, 1, 1] + [0] * 200000)
        self.bad(natural(200000) + [1, 1, 1] + [0] * 200000 + [0] + natural(200000))


class SplitSegments(unittest.TestCase):
    def test_split(self):
        lines = [(time, "a", "b", 0, ()) for time in (0, 63, 64, 127, 128, 640, 9999)]
        self.assertEqual(split_segments(lines),
                         [(0, lines[:2]), (1, lines[2:4]), (2, lines[4:5]), (10, lines[5:6]), (156, lines[6:])])

    def test_nothing(self):
        self.assertEqual(split_segments([]), [])

    def test_any_order(self):
        rng = seeded(21)
        lines = sorted_lines([random_line(rng, 1000) for _ in range(60)])
        wanted = split_segments(lines)
        self.assertEqual([line for _, part in wanted for line in part], lines)
        self.assertEqual([n for n, _ in wanted], sorted({line[0] // 64 for line in lines}))
        for number, part in wanted:
            self.assertEqual([line[0] // 64 for line in part], [number] * len(part))
        mixed = list(lines)
        rng.shuffle(mixed)
        before = list(mixed)
        self.assertEqual(split_segments(mixed), wanted)
        self.assertEqual(mixed, before)

    def test_the_lists_are_new(self):
        given = list(SEGMENT)
        found = split_segments(given)
        self.assertEqual(found, [(1, SEGMENT)])
        found[0][1].append(1)
        found.append(2)
        self.assertEqual(given, SEGMENT)
        self.assertEqual(split_segments(given), [(1, SEGMENT)])


if __name__ == "__main__":
    unittest.main()
