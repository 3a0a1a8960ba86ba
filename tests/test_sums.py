"""Points 60 to 62: windows, kept sums, and the sums of a rule."""

import unittest

from shedbook.sums import add_number, goes, window_of, window_sums
from tests.fates import expected_going
from tests.helpers import check_unshared, random_line, random_rule, seeded

RULE = ("sum", "visit", "age", 10)
ROW = ("visit", "age", 10, 2, "anna", 3, 60, -5, 47)


def line(time, subject="anna", fields=(("age", 7),), kind="visit"):
    return (time, kind, subject, 0, fields)


class Windows(unittest.TestCase):
    def test_window_of(self):
        for time, width, wanted in ((0, 1, 0), (0, 999, 0), (9, 10, 0), (10, 10, 1), (11, 10, 1), (19, 10, 1),
                                    (20, 10, 2), (9999, 1, 9999), (9999, 10, 999), (9999, 999, 10), (998, 999, 0),
                                    (999, 999, 1), (7, 1, 7)):
            self.assertEqual(window_of(line(time), width), wanted, (time, width))


class AddNumber(unittest.TestCase):
    def test_to_nothing(self):
        for number in (0, 7, -7, 999999, -999999):
            self.assertEqual(add_number([], line(25), "age", 10, number),
                             [("visit", "age", 10, 2, "anna", 1, number, number, number)])

    def test_to_the_same_window_and_subject(self):
        for number, wanted in ((5, (4, 65, -5, 47)), (-6, (4, 54, -6, 47)), (48, (4, 108, -5, 48)), (0, (4, 60, -5, 47)),
                               (-5, (4, 55, -5, 47)), (47, (4, 107, -5, 47))):
            for time in (20, 29):
                self.assertEqual(add_number([ROW], line(time), "age", 10, number), [ROW[:5] + wanted])

    def test_all_negative(self):
        kept = []
        for number in (-3, -9, -4):
            kept = add_number(kept, line(25), "age", 10, number)
        self.assertEqual(kept, [("visit", "age", 10, 2, "anna", 3, -16, -9, -3)])

    def test_to_another(self):
        one = (1, 5, 5, 5)
        for told, field, width, key in (
                (line(19), "age", 10, ("visit", "age", 10, 1, "anna")),
                (line(30), "age", 10, ("visit", "age", 10, 3, "anna")),
                (line(25, "bo"), "age", 10, ("visit", "age", 10, 2, "bo")),
                (line(25, "ann"), "age", 10, ("visit", "age", 10, 2, "ann")),
                (line(25), "cost", 10, ("visit", "cost", 10, 2, "anna")),
                (line(25), "ab", 10, ("visit", "ab", 10, 2, "anna")),
                (line(25), "age", 9, ("visit", "age", 9, 2, "anna")),
                (line(25), "age", 11, ("visit", "age", 11, 2, "anna")),
                (line(25, kind="sale"), "age", 10, ("sale", "age", 10, 2, "anna"))):
            wanted = sorted([ROW, key + one])
            self.assertEqual(add_number([ROW], told, field, width, 5), wanted)

    def test_order(self):
        """The windows, widths and counts go as integers."""
        kept = []
        for time, width in ((100, 10), (90, 10), (25, 100), (25, 9), (7, 10)):
            kept = add_number(kept, line(time), "age", width, 1)
        self.assertEqual([row[2:4] for row in kept], [(9, 2), (10, 0), (10, 9), (10, 10), (100, 0)])

    def test_against_lists_of_numbers(self):
        rng = seeded(60)
        kept, numbers = [], {}
        for _ in range(300):
            told, width, number = random_line(rng, 40), rng.choice((5, 10)), rng.randint(-20, 20)
            field = rng.choice(("age", "cost"))
            key = (told[1], field, width, told[0] // width, told[2])
            numbers.setdefault(key, []).append(number)
            kept = add_number(kept, told, field, width, number)
            self.assertEqual(kept, [key + (len(found), sum(found), min(found), max(found))
                                    for key, found in sorted(numbers.items())])

    def test_nothing_is_shared(self):
        kept = [ROW]
        check_unshared(self, lambda: add_number(kept, line(25), "age", 10, 5))
        self.assertEqual(kept, [ROW])


class Goes(unittest.TestCase):
    def check(self, rules, now, wanted):
        for given in (rules, rules[::-1]):
            self.assertIs(goes(given, now, ROW), wanted, (rules, now))

    def test_the_sum_rule(self):
        self.check([RULE], 0, False)
        self.check([], 0, True)
        for other in (("sum", "visit", "age", 9), ("sum", "visit", "cost", 10), ("sum", "sale", "age", 10)):
            self.check([other], 0, True)
            self.check([other, RULE], 0, False)

    def test_forget(self):
        """The first time of the window is 20."""
        for moment, wanted in ((0, False), (19, False), (20, True), (21, True), (29, True), (9999, True)):
            self.check([RULE, ("forget", "anna", moment)], 50, wanted)
            self.check([RULE, ("forget", "anna", moment), ("hold", "bo", 99)], 50, wanted)
            self.check([RULE, ("forget", "anna", moment), ("must", "visit", 9999)], 50, wanted)
            self.check([RULE, ("forget", "bo", moment)], 50, False)
            self.check([RULE, ("forget", "visit", moment)], 50, False)

    def test_hold(self):
        for moment, wanted in ((1, True), (49, True), (50, True), (51, False), (9999, False)):
            self.check([RULE, ("forget", "anna", 20), ("hold", "anna", moment)], 50, wanted)
            self.check([RULE, ("hold", "anna", moment)], 50, False)
            self.check([RULE, ("forget", "anna", 19), ("hold", "anna", moment)], 50, False)
            self.check([("hold", "anna", moment)], 50, True)
        self.check([RULE, ("forget", "anna", 20), ("hold", "anna", 3), ("hold", "anna", 51)], 50, False)

    def test_erase(self):
        for moment, wanted in ((0, False), (19, False), (20, True), (21, True), (9999, True)):
            self.check([RULE, ("erase", "visit", "age", moment)], 50, wanted)
            self.check([RULE, ("erase", "visit", "age", moment), ("hold", "anna", 99)], 50, wanted)
            self.check([RULE, ("erase", "sale", "age", moment)], 50, False)
            self.check([RULE, ("erase", "visit", "cost", moment)], 50, False)
            self.check([RULE, ("erase", "age", "visit", moment)], 50, False)

    def test_several(self):
        self.check([RULE, ("erase", "visit", "age", 20), ("forget", "anna", 20)], 50, True)
        self.check([("erase", "visit", "age", 20), ("forget", "anna", 20)], 50, True)
        self.check([RULE, ("erase", "visit", "age", 20), ("forget", "anna", 20), ("hold", "anna", 99)], 50, True)
        self.check([RULE, ("keep", "visit", 0), ("blur", "visit", "age", 2, 0), ("must", "visit", 1)], 50, False)

    def test_first_window(self):
        row = ("visit", "age", 10, 0, "anna", 1, 1, 1, 1)
        self.assertIs(goes([RULE, ("forget", "anna", 0)], 0, row), True)
        self.assertIs(goes([RULE, ("erase", "visit", "age", 0)], 0, row), True)

    def test_against_the_words(self):
        rng = seeded(61)
        for _ in range(2000):
            rules = [random_rule(rng) for _ in range(rng.randint(0, 4))]
            width = rng.randint(1, 20)
            row = (rng.choice(("visit", "sale")), rng.choice(("age", "cost")), width, rng.randint(0, 4),
                   rng.choice(("anna", "bo")), 1, 1, 1, 1)
            rules.append(("sum",) + row[:3])
            now = rng.randint(0, 40)
            self.assertIs(goes(rules, now, row), expected_going(rules, now, row), (rules, now, row))


class WindowSums(unittest.TestCase):
    def test_nothing(self):
        self.assertEqual(window_sums(RULE, [], []), [])
        others = [line(25, kind="sale"), line(25, fields=()), line(25, fields=(("cost", 7),)),
                  line(25, fields=(("age", "old"),))]
        kept = [("visit", "age", 9) + ROW[3:], ("visit", "cost", 10) + ROW[3:], ("sale", "age", 10) + ROW[3:]]
        self.assertEqual(window_sums(RULE, others, kept), [])

    def test_kept_alone(self):
        other = ("visit", "age", 10, 2, "bo", 1, 50, 50, 50)
        late = ("visit", "age", 10, 11, "anna", 2, 0, -1, 1)
        self.assertEqual(window_sums(RULE, [], [ROW]), [(2, 3, 60, -5, 47)])
        self.assertEqual(window_sums(RULE, [], [ROW, other, late]), [(2, 4, 110, -5, 50), (11, 2, 0, -1, 1)])
        self.assertEqual(window_sums(RULE, [], [late, other, ROW]), [(2, 4, 110, -5, 50), (11, 2, 0, -1, 1)])

    def test_lines_alone(self):
        lines = [line(20, "anna", (("age", 7), ("cost", 99))), line(29, "bo", (("age", -3),)),
                 line(30, "bo", (("age", 1),)), line(100, "bo", (("age", 0),))]
        wanted = [(2, 2, 4, -3, 7), (3, 1, 1, 1, 1), (10, 1, 0, 0, 0)]
        self.assertEqual(window_sums(RULE, lines, []), wanted)
        self.assertEqual(window_sums(RULE, lines[::-1], []), wanted)

    def test_both(self):
        lines = [line(21, "anna", (("age", 100),)), line(21, "cy", (("age", -100),)), line(5, "anna", (("age", 1),))]
        self.assertEqual(window_sums(RULE, lines, [ROW]), [(0, 1, 1, 1, 1), (2, 5, 60, -100, 100)])

    def test_what_counts_for_nothing(self):
        lines = [line(21, fields=(("age", 100),)), line(21, kind="sale"), line(21, fields=(("age", "old"),)),
                 line(21, fields=(("town", 5),)), line(21, fields=())]
        kept = [ROW, ("visit", "age", 11) + ROW[3:], ("visit", "cost", 10) + ROW[3:], ("sale", "age", 10) + ROW[3:]]
        self.assertEqual(window_sums(RULE, lines, kept), [(2, 4, 160, -5, 100)])

    def test_nothing_is_shared(self):
        lines, kept = [line(25)], [ROW]
        check_unshared(self, lambda: window_sums(RULE, lines, kept))
        check_unshared(self, lambda: window_sums(RULE, [], []))
        self.assertEqual((lines, kept), ([line(25)], [ROW]))


if __name__ == "__main__":
    unittest.main()
