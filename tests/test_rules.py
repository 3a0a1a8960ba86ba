"""Points 9 and 13 to 15: rules, which of them clash, their order and their written forms."""

import itertools
import unittest

from shedbook.errors import InvalidRule, Malformed
from shedbook.rules import check_rule, clash, is_consistent, read_rule, rule_key, write_rule
from tests.helpers import NO_WORDS, raises, random_rule, seeded, sign, spoiled_texts

# For each first entry a rule, and the least and greatest integers with their indexes.
FORMS = [
    (("keep", "visit", 30), {2: (0, 9999)}),
    (("must", "visit", 30), {2: (1, 9999)}),
    (("blur", "visit", "age", 10, 30), {3: (2, 1000), 4: (0, 9999)}),
    (("hold", "anna", 30), {2: (1, 9999)}),
    (("forget", "anna", 30), {2: (0, 9999)}),
    (("erase", "visit", "age", 30), {3: (0, 9999)}),
    (("sum", "visit", "age", 10), {3: (1, 999)}),
]


def with_entry(rule, index, entry):
    return rule[:index] + (entry,) + rule[index + 1:]


def is_plain_integer(text):
    body = text[1:] if text[:1] == "-" else text
    if body == "" or not all([mark in "0123456789" for mark in body]):
        return False
    return body[0] != "0" or text == "0"


def is_written_rule(text):
    """Say by another way than the program whether a text is the written form of a rule."""
    parts = text.split(" ")
    for rule, ranges in FORMS:
        if rule[0] != parts[0] or len(rule) != len(parts):
            continue
        for k in range(1, len(parts)):
            if k in ranges:
                if not is_plain_integer(parts[k]) or not ranges[k][0] <= int(parts[k]) <= ranges[k][1]:
                    return False
            elif not 1 <= len(parts[k]) <= 12 or not all(["a" <= mark <= "z" for mark in parts[k]]):
                return False
        return True
    return False


class CheckRule(unittest.TestCase):
    def good(self, rule):
        self.assertIsNone(check_rule(rule), rule)

    def bad(self, rule):
        self.assertTrue(raises(InvalidRule, check_rule, rule), rule)

    def test_rules(self):
        for rule, _ in FORMS:
            self.good(rule)

    def test_integers(self):
        for rule, ranges in FORMS:
            for index, (least, greatest) in ranges.items():
                for number in (least, least + 1, greatest - 1, greatest):
                    self.good(with_entry(rule, index, number))
                for number in (least - 1, greatest + 1, -least - 1, 10 ** 9, -10 ** 9):
                    self.bad(with_entry(rule, index, number))
                for text in ("", "30", "a", "visit"):
                    self.bad(with_entry(rule, index, text))

    def test_words(self):
        for rule, ranges in FORMS:
            for index in range(1, len(rule)):
                if index not in ranges:
                    for word in ("a", "abcdefghijkl", "keep"):
                        self.good(with_entry(rule, index, word))
                    for text in NO_WORDS + (0, 30, -1):
                        self.bad(with_entry(rule, index, text))

    def test_first_entries(self):
        for rule, _ in FORMS:
            for first in ("", "Keep", "keeps", "visit", "sums", "kee", "k", " keep", 0, 30, -1):
                self.bad(with_entry(rule, 0, first))

    def test_lengths(self):
        for rule, _ in FORMS:
            for cut in range(len(rule)):
                self.bad(rule[:cut])
                self.bad(rule[:cut] + rule[cut + 1:])
            for entry in ("a", 1, "", 30):
                self.bad(rule + (entry,))
            self.bad(rule + (1, 1))
        self.bad(())
        self.bad(("keep",))
        self.bad((0,))


class Clashes(unittest.TestCase):
    CLASHING = [
        (("keep", "a", 3), ("keep", "a", 4)),
        (("keep", "a", 0), ("keep", "a", 9999)),
        (("must", "a", 3), ("must", "a", 4)),
        (("keep", "a", 3), ("must", "a", 4)),
        (("keep", "a", 0), ("must", "a", 1)),
        (("sum", "a", "b", 3), ("sum", "a", "b", 4)),
        (("sum", "a", "b", 3), ("sum", "a", "b", 6)),
        (("blur", "a", "b", 4, 1), ("blur", "a", "b", 6, 1)),
        (("blur", "a", "b", 4, 1), ("blur", "a", "b", 6, 2)),
        (("blur", "a", "b", 4, 2), ("blur", "a", "b", 6, 1)),
        (("blur", "a", "b", 2, 1), ("blur", "a", "b", 3, 1)),
        (("blur", "a", "b", 999, 1), ("blur", "a", "b", 1000, 1)),
        (("blur", "a", "b", 4, 1), ("blur", "a", "b", 4, 2)),
        (("blur", "a", "b", 2, 0), ("blur", "a", "b", 2, 9999)),
    ]
    PEACEFUL = [
        (("keep", "a", 3), ("keep", "b", 4)),
        (("must", "a", 3), ("must", "b", 4)),
        (("keep", "a", 4), ("must", "a", 4)),
        (("keep", "a", 5), ("must", "a", 4)),
        (("keep", "a", 3), ("must", "b", 4)),
        (("sum", "a", "b", 3), ("sum", "a", "c", 4)),
        (("sum", "a", "b", 3), ("sum", "c", "b", 4)),
        (("sum", "a", "b", 3), ("sum", "b", "a", 4)),
        (("blur", "a", "b", 4, 1), ("blur", "a", "c", 6, 1)),
        (("blur", "a", "b", 4, 1), ("blur", "c", "b", 6, 1)),
        (("blur", "a", "b", 4, 1), ("blur", "a", "c", 4, 2)),
        (("blur", "a", "b", 4, 1), ("blur", "c", "b", 4, 2)),
        (("blur", "a", "b", 2, 1), ("blur", "a", "b", 4, 1)),
        (("blur", "a", "b", 2, 1), ("blur", "a", "b", 4, 9)),
        (("blur", "a", "b", 2, 9), ("blur", "a", "b", 4, 1)),
        (("blur", "a", "b", 3, 1), ("blur", "a", "b", 999, 1)),
        (("hold", "a", 3), ("hold", "a", 4)),
        (("forget", "a", 3), ("forget", "a", 4)),
        (("hold", "a", 3), ("forget", "a", 4)),
        (("hold", "a", 3), ("forget", "a", 3)),
        (("erase", "a", "b", 3), ("erase", "a", "b", 4)),
        (("erase", "a", "b", 3), ("sum", "a", "b", 4)),
        (("blur", "a", "b", 4, 3), ("erase", "a", "b", 3)),
        (("blur", "a", "b", 4, 3), ("sum", "a", "b", 4)),
        (("keep", "a", 3), ("forget", "a", 4)),
        (("forget", "a", 3), ("must", "a", 4)),
        (("hold", "a", 3), ("must", "a", 4)),
        (("hold", "a", 3), ("keep", "a", 4)),
        (("keep", "a", 3), ("sum", "a", "b", 4)),
        (("blur", "a", "b", 4, 3), ("must", "a", 4)),
    ]

    def test_clashing(self):
        for first, second in self.CLASHING:
            self.assertIs(clash(first, second), True, (first, second))
            self.assertIs(clash(second, first), True, (second, first))
            self.assertIs(is_consistent([first, second]), False)
            self.assertIs(is_consistent([second, first]), False)

    def test_peaceful(self):
        for first, second in self.PEACEFUL:
            self.assertIs(clash(first, second), False, (first, second))
            self.assertIs(clash(second, first), False, (second, first))
            self.assertIs(is_consistent([first, second]), True)
            self.assertIs(is_consistent([second, first]), True)

    def test_a_rule_with_itself(self):
        for rule, _ in FORMS:
            self.assertIs(clash(rule, rule), False, rule)
            self.assertIs(clash(rule, with_entry(rule, 0, rule[0])), False, rule)
            self.assertIs(is_consistent([rule]), True)

    def expected(self, first, second):
        """Say by another way than the program whether two rules clash (point 13)."""
        if first == second:
            return False
        for one, other in ((first, second), (second, first)):
            if one[:2] == ("keep", other[1]) and other[0] == "must" and one[2] < other[2]:
                return True
        if first[:2] == second[:2] and first[0] in ("keep", "must"):
            return True
        if first[:3] != second[:3] or first[0] not in ("sum", "blur"):
            return False
        small, big = sorted([first[3], second[3]])
        return first[0] == "sum" or small == big or big // small * small != big

    def test_random_pairs(self):
        rng = seeded(13)
        clashing = 0
        for _ in range(20000):
            first, second = random_rule(rng), random_rule(rng)
            wanted = self.expected(first, second)
            clashing += wanted
            self.assertIs(clash(first, second), wanted, (first, second))
        self.assertGreater(clashing, 500)

    def test_consistent_lists(self):
        self.assertIs(is_consistent([]), True)
        calm = [("keep", "a", 9), ("must", "a", 9), ("blur", "a", "b", 2, 3), ("blur", "a", "b", 10, 5),
                ("blur", "a", "b", 100, 1), ("sum", "a", "b", 7), ("hold", "s", 4), ("forget", "s", 5)]
        self.assertIs(is_consistent(calm), True)
        for extra in (("keep", "a", 8), ("must", "a", 8), ("blur", "a", "b", 3, 3), ("blur", "a", "b", 100, 2),
                      ("sum", "a", "b", 8)):
            for at in range(len(calm) + 1):
                self.assertIs(is_consistent(calm[:at] + [extra] + calm[at:]), False)


class Order(unittest.TestCase):
    ASCENDING = [
        ("blur", "a", "b", 2, 9), ("blur", "a", "b", 10, 3), ("blur", "a", "b", 10, 20),
        ("blur", "a", "bb", 2, 0), ("blur", "aa", "a", 2, 0), ("blur", "b", "a", 2, 0),
        ("erase", "a", "b", 9), ("erase", "a", "b", 10), ("erase", "a", "c", 0), ("erase", "b", "a", 0),
        ("forget", "a", 0), ("forget", "a", 9), ("forget", "a", 10), ("forget", "b", 5),
        ("hold", "a", 9), ("hold", "a", 10), ("hold", "ab", 1), ("hold", "b", 1),
        ("keep", "a", 2), ("keep", "a", 10), ("keep", "z", 0),
        ("must", "a", 2), ("must", "a", 10), ("must", "b", 1),
        ("sum", "a", "b", 3), ("sum", "a", "b", 20), ("sum", "a", "c", 1), ("sum", "b", "a", 1),
    ]

    def test_rule_key(self):
        for i, first in enumerate(self.ASCENDING):
            self.assertIs(rule_key(first).__class__, tuple)
            for k, second in enumerate(self.ASCENDING):
                one, other = rule_key(first), rule_key(second)
                self.assertEqual((one > other) - (one < other), sign(i, k), (first, second))
                self.assertEqual(one == other, i == k)

    def test_sorting(self):
        rng = seeded(14)
        for _ in range(20):
            mixed = list(self.ASCENDING)
            rng.shuffle(mixed)
            self.assertEqual(sorted(mixed, key=rule_key), self.ASCENDING)


class WrittenRules(unittest.TestCase):
    WRITTEN = [
        (("keep", "visit", 30), "keep visit 30"),
        (("keep", "visit", 0), "keep visit 0"),
        (("must", "visit", 1), "must visit 1"),
        (("blur", "visit", "age", 10, 0), "blur visit age 10 0"),
        (("hold", "anna", 9999), "hold anna 9999"),
        (("forget", "anna", 12), "forget anna 12"),
        (("erase", "visit", "age", 5), "erase visit age 5"),
        (("sum", "visit", "age", 999), "sum visit age 999"),
        (("keep", "keep", 3), "keep keep 3"),
    ]

    def test_write_and_read(self):
        for rule, text in self.WRITTEN:
            self.assertEqual(write_rule(rule), text)
            self.assertEqual(read_rule(text), rule)
            self.assertIs(read_rule(text).__class__, tuple)

    def test_many_rules(self):
        rng = seeded(15)
        for _ in range(500):
            rule = random_rule(rng, 9999)
            self.assertTrue(is_written_rule(write_rule(rule)))
            self.assertEqual(read_rule(write_rule(rule)), rule)

    def test_integers_at_their_bounds(self):
        for rule, ranges in FORMS:
            for index, (least, greatest) in ranges.items():
                for number in (least, greatest):
                    changed = with_entry(rule, index, number)
                    self.assertEqual(read_rule(write_rule(changed)), changed)
                for number in (least - 1, greatest + 1):
                    text = " ".join([str(entry) for entry in with_entry(rule, index, number)])
                    self.assertTrue(raises(Malformed, read_rule, text), text)

    def test_malformed(self):
        for text in ["", " ", "keep", "keep ", "keep visit", "keep visit ", " keep visit 3", "keep  visit 3",
                     "keep visit  3", "keep visit 3 ", "keep visit 3 3", "keep visit 03", "keep visit -0",
                     "keep visit +3", "keep visit -3", "keep visit x", "keep 3 3", "keep 3 visit", "Keep visit 3",
                     "keep Visit 3", "keep visit,3", "stay visit 3", "visit 3", "3", "3 visit keep",
                     "hold anna 0", "must visit 0", "blur visit age 1 0", "blur visit 10 0",
                     "blur visit age age 0", "sum visit age 0", "sum visit age 1000", "erase visit 3",
                     "keep abcdefghijklm 3", "keep visit 3.0", "keep visit 1_0", "9" * 400]:
            self.assertTrue(raises(Malformed, read_rule, text), text)

    def test_spoiled(self):
        accepted = 0
        for _, text in self.WRITTEN:
            for spoiled in spoiled_texts(text):
                if is_written_rule(spoiled):
                    accepted += 1
                    self.assertEqual(write_rule(read_rule(spoiled)), spoiled)
                else:
                    self.assertTrue(raises(Malformed, read_rule, spoiled), spoiled)
        self.assertGreater(accepted, 100)

    def test_entries_exchanged(self):
        for rule, _ in FORMS:
            for entries in itertools.permutations(rule):
                text = " ".join([str(entry) for entry in entries])
                if is_written_rule(text):
                    self.assertEqual(read_rule(text), entries)
                else:
                    self.assertTrue(raises(Malformed, read_rule, text), text)


if __name__ == "__main__":
    unittest.main()
