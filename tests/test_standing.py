"""Points 10 to 12, 16 and 17: what rules leave of lines."""

import unittest

from shedbook.lines import check_line, sorted_lines
from shedbook.rules import is_consistent
from shedbook.standing import expired, is_forgotten, is_protected, left_of, standing_lines
from tests.fates import expected_fate
from tests.helpers import random_line, random_rule, seeded

LINE = (20, "visit", "anna", 3, (("age", 47), ("town", "lund")))


def with_fields(*fields):
    return LINE[:4] + (fields,)


def random_rules(rng, many):
    rules = []
    for _ in range(many):
        rule = random_rule(rng)
        if rule not in rules and is_consistent(rules + [rule]):
            rules.append(rule)
    rng.shuffle(rules)
    return rules


class Protection(unittest.TestCase):
    def test_must(self):
        rules = [("must", "visit", 5)]
        for now, wanted in ((0, True), (20, True), (24, True), (25, False), (26, False), (9999, False)):
            self.assertIs(is_protected(rules, now, LINE), wanted, now)

    def test_hold(self):
        rules = [("hold", "anna", 30)]
        for now, wanted in ((0, True), (20, True), (29, True), (30, False), (31, False), (9999, False)):
            self.assertIs(is_protected(rules, now, LINE), wanted, now)

    def test_negative_age(self):
        self.assertIs(is_protected([("must", "visit", 1)], 19, LINE), True)
        self.assertIs(is_protected([("must", "visit", 1)], 20, LINE), True)
        self.assertIs(is_protected([("must", "visit", 1)], 21, LINE), False)
        self.assertEqual(left_of([("keep", "visit", 0)], 19, LINE), LINE)
        self.assertIsNone(left_of([("keep", "visit", 0)], 20, LINE))
        blur = [("blur", "visit", "age", 10, 0)]
        self.assertEqual(left_of(blur, 19, LINE), LINE)
        self.assertEqual(left_of(blur, 20, LINE), with_fields(("age", 40), ("town", "lund")))

    def test_other_kinds_and_subjects(self):
        for rule in (("must", "sale", 99), ("must", "anna", 99), ("hold", "bo", 99), ("hold", "visit", 99),
                     ("keep", "visit", 0), ("forget", "anna", 99), ("blur", "visit", "age", 2, 0),
                     ("erase", "visit", "age", 99), ("sum", "visit", "age", 9)):
            self.assertIs(is_protected([rule], 20, LINE), False, rule)

    def test_several(self):
        rules = [("hold", "bo", 99), ("must", "sale", 99), ("hold", "anna", 21), ("must", "visit", 3)]
        for now, wanted in ((20, True), (21, True), (22, True), (23, False)):
            self.assertIs(is_protected(rules, now, LINE), wanted, now)
            self.assertIs(is_protected(rules[::-1], now, LINE), wanted, now)
        self.assertIs(is_protected([], 20, LINE), False)

    def test_a_protected_line_stands_as_it_is(self):
        harsh = [("forget", "anna", 99), ("keep", "visit", 5), ("erase", "visit", "town", 99),
                 ("blur", "visit", "age", 10, 0)]
        for guard in (("must", "visit", 5), ("hold", "anna", 25)):
            for rules in (harsh + [guard], [guard] + harsh):
                self.assertEqual(left_of(rules, 24, LINE), LINE)
                self.assertIsNone(expired(rules, 24, LINE))
                self.assertIs(is_forgotten(rules, LINE), True)
                self.assertIsNone(left_of(rules, 25, LINE))


class Forgetting(unittest.TestCase):
    def test_is_forgotten(self):
        for moment, wanted in ((0, False), (19, False), (20, True), (21, True), (9999, True)):
            rules = [("forget", "anna", moment)]
            self.assertIs(is_forgotten(rules, LINE), wanted, moment)
            for now in (0, 20, 9999):
                self.assertEqual(left_of(rules, now, LINE), None if wanted else LINE)
                self.assertIsNone(expired(rules, now, LINE))

    def test_other_rules(self):
        for rule in (("forget", "bo", 99), ("forget", "visit", 99), ("hold", "anna", 99), ("keep", "visit", 0),
                     ("erase", "anna", "age", 99), ("erase", "visit", "age", 99), ("must", "anna", 99)):
            self.assertIs(is_forgotten([rule], LINE), False, rule)
        self.assertIs(is_forgotten([], LINE), False)

    def test_forgotten_lines_do_not_expire(self):
        rules = [("keep", "visit", 0), ("forget", "anna", 20)]
        self.assertIsNone(expired(rules, 99, LINE))
        self.assertIsNone(left_of(rules, 99, LINE))
        self.assertEqual(expired([("keep", "visit", 0), ("forget", "anna", 19)], 99, LINE), LINE)


class Keeping(unittest.TestCase):
    def test_keep(self):
        rules = [("keep", "visit", 5)]
        for now in (0, 19, 20, 24):
            self.assertEqual(left_of(rules, now, LINE), LINE)
            self.assertIsNone(expired(rules, now, LINE))
        for now in (25, 26, 9999):
            self.assertIsNone(left_of(rules, now, LINE))
            self.assertEqual(expired(rules, now, LINE), LINE)

    def test_keep_of_another_kind(self):
        for rule in (("keep", "sale", 0), ("keep", "anna", 0)):
            self.assertEqual(left_of([rule], 99, LINE), LINE)
            self.assertIsNone(expired([rule], 99, LINE))

    def test_keep_and_must_of_one_age(self):
        rules = [("must", "visit", 5), ("keep", "visit", 5)]
        self.assertEqual((left_of(rules, 24, LINE), expired(rules, 24, LINE)), (LINE, None))
        self.assertEqual((left_of(rules, 25, LINE), expired(rules, 25, LINE)), (None, LINE))

    def test_keep_waits_for_the_hold(self):
        rules = [("keep", "visit", 5), ("hold", "anna", 40)]
        self.assertEqual((left_of(rules, 39, LINE), expired(rules, 39, LINE)), (LINE, None))
        self.assertEqual((left_of(rules, 40, LINE), expired(rules, 40, LINE)), (None, LINE))

    def test_what_expires_is_coarsened(self):
        rules = [("keep", "visit", 5), ("erase", "visit", "town", 20), ("blur", "visit", "age", 10, 5)]
        self.assertEqual(left_of(rules, 24, LINE), with_fields(("age", 47)))
        self.assertEqual(expired(rules, 25, LINE), with_fields(("age", 40)))
        later = [("keep", "visit", 5), ("blur", "visit", "age", 10, 6)]
        self.assertEqual(expired(later, 25, LINE), LINE)
        self.assertEqual(expired(later, 26, LINE), with_fields(("age", 40), ("town", "lund")))


class Erasing(unittest.TestCase):
    def test_erase(self):
        for moment, wanted in ((0, LINE), (19, LINE), (20, with_fields(("town", "lund"))),
                               (21, with_fields(("town", "lund")))):
            for now in (0, 20, 9999):
                self.assertEqual(left_of([("erase", "visit", "age", moment)], now, LINE), wanted)

    def test_erase_of_others(self):
        for rule in (("erase", "sale", "age", 99), ("erase", "visit", "cost", 99), ("erase", "anna", "age", 99)):
            self.assertEqual(left_of([rule], 99, LINE), LINE)

    def test_the_only_field(self):
        line = with_fields(("age", 47))
        self.assertEqual(left_of([("erase", "visit", "age", 20)], 20, line), with_fields())
        self.assertEqual(left_of([("erase", "visit", "age", 20)], 20, with_fields()), with_fields())

    def test_several(self):
        rules = [("erase", "visit", "town", 20), ("erase", "visit", "age", 50), ("erase", "visit", "age", 3)]
        self.assertEqual(left_of(rules, 20, LINE), with_fields())
        self.assertEqual(left_of(rules[::-1], 20, LINE), with_fields())

    def test_erase_before_blur(self):
        rules = [("blur", "visit", "age", 10, 0), ("erase", "visit", "age", 20)]
        self.assertEqual(left_of(rules, 20, LINE), with_fields(("town", "lund")))
        self.assertEqual(left_of(rules[::-1], 20, LINE), with_fields(("town", "lund")))


class Blurring(unittest.TestCase):
    def blurred(self, step, value):
        return left_of([("blur", "visit", "age", step, 0)], 20, with_fields(("age", value)))[4][0][1]

    def test_age(self):
        rules = [("blur", "visit", "age", 10, 5)]
        for now, wanted in ((0, 47), (24, 47), (25, 40), (26, 40), (9999, 40)):
            self.assertEqual(left_of(rules, now, LINE), with_fields(("age", wanted), ("town", "lund")))

    def test_numbers(self):
        for step, value, wanted in (
                (10, 47, 40), (10, 40, 40), (10, 39, 30), (10, 9, 0), (10, 0, 0), (2, 3, 2), (1000, 999, 0),
                (1000, 1000, 1000), (10, -1, -10), (10, -10, -10), (10, -11, -20), (2, -1, -2), (7, -50, -56),
                (1000, -1, -1000), (1000, 999999, 999000), (3, 999999, 999999), (3, -999999, -999999),
                (2, -999999, -999999), (1000, -999999, -999999), (1000, -999001, -999999),
                (1000, -999000, -999000), (1000, -998001, -999000), (999, -999000, -999000),
                (999, -999001, -999999), (999, -999999, -999999), (7, -999998, -999999), (7, -999994, -999999),
                (7, -999992, -999992)):
            self.assertEqual(self.blurred(step, value), wanted, (step, value))

    def test_words(self):
        for value, wanted in (("lund", "l"), ("a", "a"), ("zzzzzzzzzzzz", "z"), ("ba", "b")):
            for step in (2, 10, 1000):
                self.assertEqual(self.blurred(step, value), wanted)

    def test_others(self):
        for rule in (("blur", "sale", "age", 10, 0), ("blur", "visit", "cost", 10, 0), ("blur", "anna", "age", 10, 0)):
            self.assertEqual(left_of([rule], 99, LINE), LINE)

    def test_several(self):
        rules = [("blur", "visit", "age", 100, 9), ("blur", "visit", "age", 2, 3), ("blur", "visit", "age", 10, 6),
                 ("blur", "visit", "town", 2, 4)]
        rng = seeded(11)
        for _ in range(24):
            rng.shuffle(rules)
            for now, age, town in ((22, 247, "lund"), (23, 246, "lund"), (25, 246, "l"), (26, 240, "l"),
                                   (28, 240, "l"), (29, 200, "l")):
                line = with_fields(("age", 247), ("town", "lund"))
                self.assertEqual(left_of(rules, now, line), with_fields(("age", age), ("town", town)))

    def test_the_greater_step_earlier(self):
        rules = [("blur", "visit", "age", 2, 9), ("blur", "visit", "age", 100, 1)]
        for now, wanted in ((20, 247), (21, 200), (28, 200), (29, 200)):
            self.assertEqual(left_of(rules, now, with_fields(("age", 247))), with_fields(("age", wanted)))
            self.assertEqual(left_of(rules[::-1], now, with_fields(("age", 247))), with_fields(("age", wanted)))


class StandingLines(unittest.TestCase):
    def test_order_and_duplicates(self):
        lines = [(5, "visit", "bo", 1, (("age", 9),)), (3, "visit", "bo", 1, (("age", 12),)),
                 (3, "visit", "bo", 1, (("age", 12),)), (3, "visit", "anna", 1, ())]
        before = list(lines)
        self.assertEqual(standing_lines([], 9, lines), [lines[3], lines[1], lines[0]])
        self.assertEqual(standing_lines([], 9, []), [])
        self.assertEqual(lines, before)

    def test_lines_that_become_equal(self):
        lines = [(3, "visit", "bo", 1, (("age", 12),)), (3, "visit", "bo", 1, (("age", 17),)),
                 (3, "visit", "bo", 1, (("age", 22),))]
        rules = [("blur", "visit", "age", 10, 2)]
        self.assertEqual(standing_lines(rules, 4, lines), lines)
        self.assertEqual(standing_lines(rules, 5, lines),
                         [(3, "visit", "bo", 1, (("age", 10),)), (3, "visit", "bo", 1, (("age", 20),))])
        self.assertEqual(standing_lines([("erase", "visit", "age", 3)], 0, lines), [(3, "visit", "bo", 1, ())])

    def test_lines_that_change_their_order(self):
        lines = [(3, "visit", "bo", 1, (("age", 11), ("town", "b"))), (3, "visit", "bo", 1, (("age", 12), ("town", "a")))]
        self.assertEqual(standing_lines([("blur", "visit", "age", 10, 0)], 3, lines),
                         [(3, "visit", "bo", 1, (("age", 10), ("town", "a"))),
                          (3, "visit", "bo", 1, (("age", 10), ("town", "b")))])

    def test_nothing_left(self):
        self.assertEqual(standing_lines([("forget", "anna", 99)], 3, [LINE]), [])
        self.assertEqual(standing_lines([("keep", "visit", 1)], 21, [LINE]), [])

    def test_against_the_words(self):
        rng = seeded(16)
        fates = {}
        for _ in range(400):
            rules = random_rules(rng, rng.randint(0, 14))
            lines = [random_line(rng, 30) for _ in range(12)]
            now = rng.randint(0, 60)
            for line in lines:
                left, gone = expected_fate(rules, now, line)
                self.assertEqual(left_of(rules, now, line), left, (rules, now, line))
                self.assertEqual(expired(rules, now, line), gone, (rules, now, line))
                fate = (left == line, left is None, gone is None)
                fates[fate] = fates.get(fate, 0) + 1
            standing = [expected_fate(rules, now, line)[0] for line in lines]
            self.assertEqual(standing_lines(rules, now, lines),
                             sorted_lines([line for line in standing if line is not None]))
        self.assertEqual(len(fates), 4)
        self.assertGreater(min(fates.values()), 200)

    def test_looking_earlier_changes_nothing(self):
        rng = seeded(17)
        for _ in range(400):
            rules = random_rules(rng, rng.randint(0, 16))
            lines = [random_line(rng, 30) for _ in range(12)]
            early = rng.randint(0, 60)
            late = early + rng.randint(0, 30)
            for line in lines:
                first = left_of(rules, early, line)
                if first is None:
                    self.assertIsNone(left_of(rules, late, line))
                else:
                    self.assertIsNone(check_line(first))
                    self.assertEqual(left_of(rules, late, first), left_of(rules, late, line))
            once = standing_lines(rules, late, lines)
            self.assertEqual(standing_lines(rules, late, standing_lines(rules, early, lines)), once)
            for now in range(early, late + 1):
                lines = standing_lines(rules, now, lines)
            self.assertEqual(lines, once)

    def test_the_order_of_the_rules_does_not_matter(self):
        rng = seeded(18)
        for _ in range(100):
            rules = random_rules(rng, 14)
            lines = [random_line(rng, 30) for _ in range(12)]
            now = rng.randint(0, 60)
            mixed = list(rules)
            rng.shuffle(mixed)
            self.assertEqual(standing_lines(mixed, now, lines), standing_lines(rules, now, lines))


if __name__ == "__main__":
    unittest.main()
