"""Points 30, 32 to 37, 44 and 45: matches, values, conditions, cells, rows and answers."""

import unittest

from shedbook.meaning import answer, cells_of, holds, matches, row_key, rows_of, value_of
from tests.asking import (SCHEMAS, plain_answer, plain_holds, plain_matches, plain_order,
                          plain_row_key, plain_value, random_condition, random_lines, random_name, random_question,
                          random_schemas, random_source)
from tests.helpers import seeded, sign

ALL = ("all",)
COST = ("this", "cost")
LINE = (5, "sale", "ann", 3, (("cost", 7), ("town", "york")))
LAST = (9, "refund", "ann", 4, (("cost", "x"), ("reason", "torn")))


def at(time, kind="a", subject="ann", serial=0):
    return (time, kind, subject, serial, ())


class OfMatches(unittest.TestCase):
    def test_none(self):
        self.assertEqual(matches(("of", "a"), []), [])
        self.assertEqual(matches(("of", "a"), [at(1, "b")]), [])

    def test_lines_of_the_kind(self):
        lines = plain_order([at(3), at(1), at(1, "b"), at(2, "a", "bo"), at(1, "a", "ann", 1)])
        found = [line for line in lines if line[1] == "a"]
        self.assertEqual(matches(("of", "a"), lines), [(line, line) for line in found])
        self.assertEqual(len(found), 4)


class PairsMatches(unittest.TestCase):
    def test_none(self):
        for lines in ([], [at(1)], [at(1, "b")], [at(1, "a", "ann"), at(1, "b", "bo")], [at(2, "a"), at(1, "b")]):
            self.assertEqual(matches(("pairs", "a", "b", 9999), lines), [])

    def test_span(self):
        first = at(10)
        for span, ends in [(0, [10]), (1, [10, 11]), (5, [10, 11, 15]), (9989, [10, 11, 15, 16, 9999]),
                           (9999, [10, 11, 15, 16, 9999])]:
            lasts = [at(time, "b") for time in (0, 9, 10, 11, 15, 16, 9999)]
            lines = plain_order([first] + lasts)
            wanted = [(first, at(end, "b")) for end in ends]
            self.assertEqual(matches(("pairs", "a", "b", span), lines), wanted)

    def test_span_from_the_first_time(self):
        first, last = at(0), at(9999, "b")
        self.assertEqual(matches(("pairs", "a", "b", 9999), [first, last]), [(first, last)])
        self.assertEqual(matches(("pairs", "a", "b", 9998), [first, last]), [])

    def test_last_line_before_the_first_one_in_order(self):
        first, last = at(5, "b"), at(5, "a")
        self.assertEqual(matches(("pairs", "b", "a", 0), [last, first]), [(first, last)])
        self.assertEqual(matches(("pairs", "a", "b", 0), [last, first]), [(last, first)])

    def test_equal_kinds(self):
        one, two, three = at(5, "a", "ann", 0), at(5, "a", "ann", 1), at(6, "a", "ann", 0)
        self.assertEqual(matches(("pairs", "a", "a", 9), [one]), [])
        self.assertEqual(matches(("pairs", "a", "a", 0), [one, two, three]), [(one, two), (two, one)])
        self.assertEqual(matches(("pairs", "a", "a", 1), [one, two, three]),
                         [(one, two), (one, three), (two, one), (two, three)])

    def test_order_and_subjects(self):
        lines = [at(1, "a", "ann"), at(1, "a", "bo"), at(2, "b", "ann"), at(2, "b", "bo"), at(2, "c", "ann"),
                 at(3, "a", "ann"), at(3, "b", "ann"), at(3, "b", "cy")]
        self.assertEqual(matches(("pairs", "a", "b", 9), lines), [
            (lines[0], lines[2]), (lines[0], lines[6]), (lines[1], lines[3]), (lines[5], lines[6])])


class ChainsMatches(unittest.TestCase):
    def check(self, kinds, span, lines, ends):
        """Check the pairs of the places of the first and the last lines."""
        found = matches(("chains", tuple(kinds), span), lines)
        self.assertEqual(found, [(lines[first], lines[last]) for first, last in ends])

    def test_none(self):
        self.check("ab", 9999, [], [])
        self.check("ab", 9999, [at(1)], [])
        self.check("ab", 9999, [at(1), at(2, "b", "bo")], [])
        self.check("ab", 9999, [at(1, "b"), at(2, "a")], [])
        self.check("abc", 9999, [at(1), at(2, "b"), at(3, "b")], [])

    def test_next_line_of_the_same_time(self):
        self.check("ab", 9999, [at(1, "a"), at(1, "b")], [])
        self.check("ab", 9999, [at(1, "a"), at(1, "b"), at(2, "b")], [(0, 2)])
        self.check("abc", 9999, [at(1, "a"), at(2, "b"), at(2, "c")], [])
        self.check("abc", 9999, [at(1, "a"), at(2, "b"), at(2, "c"), at(3, "c")], [(0, 3)])

    def test_next_line_that_comes_before_in_the_order(self):
        self.check("ba", 9999, [at(1, "a"), at(1, "b"), at(2, "a")], [(1, 2)])

    def test_span(self):
        lines = [at(10, "a"), at(12, "b"), at(15, "c")]
        for span, ends in [(0, []), (4, []), (5, [(0, 2)]), (6, [(0, 2)]), (9999, [(0, 2)])]:
            self.check("abc", span, lines, ends)
        self.check("ab", 0, lines, [])
        self.check("ab", 9999, [at(0, "a"), at(9999, "b")], [(0, 1)])
        self.check("ab", 9998, [at(0, "a"), at(9999, "b")], [])

    def test_earliest_lines(self):
        # The first next line is taken, also where a later one ends at the same line.
        lines = [at(1, "a"), at(2, "a"), at(3, "b"), at(4, "b"), at(5, "c"), at(6, "c")]
        self.check("abc", 9999, lines, [(0, 4), (1, 4)])
        self.check("abc", 3, lines, [(1, 4)])
        self.check("ac", 4, lines, [(0, 4), (1, 4)])

    def test_first_of_several_next_lines(self):
        lines = [at(1, "a"), at(2, "b", "ann", 3), at(2, "b", "ann", 4), at(3, "b")]
        self.check("ab", 5, lines, [(0, 1)])

    def test_one_that_ends_within_the_span_and_one_that_does_not(self):
        lines = [at(1, "a"), at(5, "a"), at(7, "b"), at(20, "a"), at(40, "b")]
        self.check("ab", 2, lines, [(1, 2)])
        self.check("ab", 6, lines, [(0, 2), (1, 2)])
        self.check("ab", 20, lines, [(0, 2), (1, 2), (3, 4)])

    def test_equal_kinds(self):
        lines = [at(1), at(2, "a", "ann", 0), at(2, "a", "ann", 1), at(4), at(5)]
        self.check("aa", 9999, lines, [(0, 1), (1, 3), (2, 3), (3, 4)])
        self.check("aa", 1, lines, [(0, 1), (3, 4)])
        self.check("aaa", 9999, lines, [(0, 3), (1, 4), (2, 4)])
        self.check("aaaa", 9999, lines, [(0, 4)])
        self.check("aba", 9999, lines, [])

    def test_four_kinds_and_other_subjects_in_between(self):
        lines = [at(1, "a"), at(1, "a", "bo"), at(2, "b", "bo"), at(3, "b"), at(3, "c"), at(4, "a", "bo"),
                 at(4, "c", "bo"), at(5, "c"), at(6, "a"), at(9, "d", "cy")]
        self.check("abca", 5, lines, [(0, 8)])
        self.check("abca", 4, lines, [])
        self.check("abc", 9, lines, [(0, 7), (1, 6)])

    def test_match_is_there_exactly_if_any_lines_fit(self):
        """Point 33, by trying all lines of a chain."""
        rng = seeded(33)
        for _ in range(200):
            lines = random_lines(rng, 12, 8)
            kinds = [rng.choice(("sale", "visit")) for _ in range(rng.randint(2, 4))]
            span = rng.randint(0, 8)
            wanted = {}
            chains = [[line] for line in lines if line[1] == kinds[0]]
            for kind in kinds[1:]:
                chains = [chain + [line] for chain in chains for line in lines
                          if line[1] == kind and line[2] == chain[0][2] and line[0] > chain[-1][0]]
            for chain in chains:
                if chain[-1][0] - chain[0][0] <= span:
                    wanted[chain[0]] = min(wanted.get(chain[0], 9999), chain[-1][0])
            found = matches(("chains", tuple(kinds), span), lines)
            self.assertEqual({first: last[0] for first, last in found}, wanted)
            self.assertEqual(len(found), len(wanted))


class Matches(unittest.TestCase):
    def test_many(self):
        rng = seeded(32)
        seen = {"of": 0, "pairs": 0, "chains": 0}
        for _ in range(800):
            source, lines = random_source(rng), random_lines(rng, 40, 10)
            found = matches(source, lines)
            self.assertEqual(found, plain_matches(source, lines))
            seen[source[0]] += len(found)
        self.assertTrue(all([many > 200 for many in seen.values()]), seen)

    def test_kinds_of_values(self):
        found = matches(("pairs", "a", "a", 5), [at(1), at(2)])
        self.assertEqual([found.__class__, found[0].__class__], [list, tuple])

    def test_each_subject_alone(self):
        rng = seeded(45)
        for _ in range(200):
            source, lines = random_source(rng), random_lines(rng, 20, 10)
            alone = []
            for subject in ("ann", "bo", "cy"):
                alone += matches(source, [line for line in lines if line[2] == subject])
            self.assertEqual(sorted(map(repr, alone)), sorted(map(repr, matches(source, lines))))


class ValueOf(unittest.TestCase):
    def test_parts_of_the_lines(self):
        for schemas in (SCHEMAS, {}):
            for word, first, last in [("time", 5, 9), ("serial", 3, 4), ("subject", "ann", "ann")]:
                self.assertEqual(value_of(("this", word), schemas, (LINE, LAST)), first)
                self.assertEqual(value_of(("that", word), schemas, (LINE, LAST)), last)
        other = (1, "sale", "bo", 0, ())
        self.assertEqual(value_of(("that", "subject"), {}, (LINE, other)), "bo")

    def test_columns(self):
        for name, match, value in [
                (("this", "cost"), (LINE, LAST), 7),
                (("that", "cost"), (LAST, LINE), 7),
                (("this", "town"), (LINE, LAST), "york"),
                (("that", "cost"), (LINE, LAST), -5),       # a field of the other sort
                (("this", "cost"), (LAST, LINE), -5),
                (("this", "reason"), (LINE, LAST), "none"),   # a missing field
                (("that", "reason"), (LINE, LAST), 0),        # a field without a column
                (("that", "town"), (LINE, LAST), 0),
                (("this", "other"), (LINE, LAST), 0)]:
            self.assertEqual(value_of(name, SCHEMAS, match), value, (name, match))

    def test_word_for_a_column_of_numbers(self):
        line = (5, "sale", "ann", 3, (("cost", "x"), ("town", 8)))
        self.assertEqual(value_of(("this", "cost"), SCHEMAS, (line, line)), 0)
        self.assertEqual(value_of(("this", "town"), SCHEMAS, (line, line)), "lund")

    def test_kind_without_a_schema(self):
        for schemas in ({}, {"refund": [("cost", "int", 3)]}, {"sale": []}):
            self.assertEqual(value_of(COST, schemas, (LINE, LINE)), 0)

    def test_many(self):
        rng = seeded(34)
        for _ in range(1000):
            schemas, lines, name = random_schemas(rng), random_lines(rng), random_name(rng)
            if lines:
                match = (rng.choice(lines), rng.choice(lines))
                self.assertEqual(value_of(name, schemas, match), plain_value(name, schemas, match))


class Holds(unittest.TestCase):
    def check(self, condition, held):
        self.assertIs(holds(condition, SCHEMAS, (LINE, LAST)), held, condition)

    def test_relations(self):
        # Numbers come before words.
        ascending = (-999999, -10, -9, 0, 9, 10, 999999, "a", "aa", "ab", "b", "z")
        for i, first in enumerate(ascending):
            for k, second in enumerate(ascending):
                for relation, held in [("is", i == k), ("differs", i != k), ("below", i < k), ("above", i > k)]:
                    self.check(("test", ("value", first), relation, ("value", second)), held)

    def test_names(self):
        self.check(("test", COST, "is", ("value", 7)), True)
        self.check(("test", ("value", 7), "is", COST), True)
        self.check(("test", ("that", "time"), "above", ("this", "time")), True)
        self.check(("test", ("this", "time"), "above", ("that", "time")), False)
        self.check(("test", ("that", "cost"), "below", ("value", -4)), True)
        self.check(("test", ("this", "subject"), "above", ("this", "time")), True)
        self.check(("test", ("this", "nothing"), "is", ("value", 0)), True)

    def test_joined(self):
        yes, no = ("test", COST, "is", COST), ("test", COST, "differs", COST)
        self.check(ALL, True)
        for parts in ((yes, yes), (yes, no), (no, yes), (no, no), (yes, yes, yes), (yes, yes, no), (no, no, yes)):
            self.check(("and", parts), no not in parts)
            self.check(("or", parts), yes in parts)
            self.check(("negate", ("and", parts)), no in parts)
            self.check(("negate", ("or", parts)), yes not in parts)
        self.check(("negate", yes), False)
        self.check(("negate", no), True)
        self.check(("negate", ("negate", yes)), True)
        self.check(("and", (("or", (no, yes)), ("negate", ("and", (yes, no))))), True)
        self.check(("or", (("and", (no, yes)), ("negate", ("or", (yes, no))))), False)

    def test_many(self):
        rng = seeded(35)
        seen = []
        for _ in range(1500):
            schemas, lines, condition = random_schemas(rng), random_lines(rng), random_condition(rng)
            if lines:
                match = (rng.choice(lines), rng.choice(lines))
                seen.append(plain_holds(condition, schemas, match))
                self.assertIs(holds(condition, schemas, match), seen[-1])
        self.assertTrue(300 < seen.count(True) < len(seen) - 300)


def asked(shape, order=(), most=0, source=("of", "sale"), condition=ALL):
    return (source, condition, shape, order, most)


class Cells(unittest.TestCase):
    def check(self, shape, cells):
        for order, most in (((), 0), ((0, "down"), 1)):
            found = cells_of(asked(shape, order, most), SCHEMAS, (LINE, LAST))
            self.assertEqual(found, cells)
            self.assertIs(found.__class__, tuple)

    def test_rows(self):
        self.check(("rows", (COST,)), (7,))
        self.check(("rows", (("that", "time"), COST, ("this", "town"), COST, ("that", "x"))), (9, 7, "york", 7, 0))

    def test_groups(self):
        self.check(("groups", 0, (), (("count",),)), (0,))
        self.check(("groups", 0, (COST,), (("count",), ("sum", COST), ("unlike", ("this", "town")))), (7, 0, 7, "york"))
        self.check(("groups", 0, (), (("least", ("that", "cost")), ("greatest", ("that", "time")))), (-5, 9))

    def test_width(self):
        for width, start in [(1, 5), (2, 4), (3, 3), (5, 5), (6, 0), (100, 0), (9999, 0)]:
            self.check(("groups", width, (), (("count",),)), (start, 0))
            self.check(("groups", width, (("that", "serial"),), (("sum", COST),)), (start, 4, 7))
        # The time is that of the first line.
        shape = ("groups", 7, (), (("count",),))
        self.assertEqual(cells_of(asked(shape), {}, (LAST, LINE)), (7, 0))
        late = (9999, "sale", "ann", 0, ())
        self.assertEqual(cells_of(asked(shape), {}, (late, late)), (9996, 0))


class Rows(unittest.TestCase):
    def check(self, shape, cells, rows, order=(), most=0):
        question = asked(shape, order, most)
        for given in (list(cells), list(cells)[::-1]):
            self.assertEqual(rows_of(question, given), rows)

    def test_rows(self):
        shape = ("rows", (COST, COST))
        self.check(shape, [], [])
        self.check(shape, [("b", 1), (10, "a"), (9, "z"), ("b", -1), ("b", 1), ("ab", 5), (9, 5)],
                   [(9, 5), (9, "z"), (10, "a"), ("ab", 5), ("b", -1), ("b", 1), ("b", 1)])

    def test_groups(self):
        shape = ("groups", 0, (COST,), (("count",), ("sum", COST), ("least", COST), ("greatest", COST), ("unlike", COST)))
        self.check(shape, [], [])
        self.check(shape, [("a", 0, 5, 5, 5, 5)], [("a", 1, 5, 5, 5, 1)])
        self.check(shape,
                   [("a", 0, 5, 5, 5, 5), ("b", 0, -3, 2, "x", 1), ("a", 0, "w", "w", "w", "w"), ("a", 0, 5, -1, 9, 5),
                    (2, 0, "w", "ab", "b", "w"), (2, 0, "v", "b", "ab", "v")],
                   [(2, 2, 0, "ab", "b", 2), ("a", 3, 10, -1, "w", 2), ("b", 1, -3, 2, "x", 1)])

    def test_groups_of_all(self):
        shape = ("groups", 0, (), (("count",), ("unlike", COST)))
        self.check(shape, [], [])
        self.check(shape, [(0, 1), (0, 2), (0, 1), (0, "a")], [(4, 3)])

    def test_groups_with_width(self):
        shape = ("groups", 10, (COST,), (("count",),))
        self.check(shape, [(10, "a", 0), (20, "a", 0), (10, "b", 0), (10, "a", 0), (0, "b", 0)],
                   [(0, "b", 1), (10, "a", 2), (10, "b", 1), (20, "a", 1)])
        self.check(("groups", 10, (), (("sum", COST),)), [(10, 4), (0, 2), (10, 3)], [(0, 2), (10, 7)])

    def test_large_sums(self):
        shape = ("groups", 0, (COST,), (("sum", COST), ("sum", COST)))
        cells = [("a", 999999, -999999)] * 5 + [("b", -999999, 999999)] * 4 + [("c", 1, 1)]
        rows = [("a", 4999995, -4999995), ("b", -3999996, 3999996), ("c", 1, 1)]
        self.check(shape, cells, rows)
        self.check(shape, cells, [rows[1], rows[2], rows[0]], (1, "up"))
        self.check(shape, cells, [rows[1], rows[2], rows[0]], (2, "down"))

    def test_order(self):
        shape = ("rows", (COST, COST, COST))
        cells = [(1, "b", 5), (1, "a", 5), (2, 7, 5), ("x", 7, -5), (1, 7, "c"), (1, 7, "c")]
        up = sorted(cells, key=plain_row_key)
        self.check(shape, cells, up)
        self.check(shape, cells, up, (0, "up"))
        self.check(shape, cells, [("x", 7, -5), (2, 7, 5), (1, 7, "c"), (1, 7, "c"), (1, "a", 5), (1, "b", 5)],
                   (0, "down"))
        self.check(shape, cells, [(1, 7, "c"), (1, 7, "c"), (2, 7, 5), ("x", 7, -5), (1, "a", 5), (1, "b", 5)], (1, "up"))
        self.check(shape, cells, [(1, "b", 5), (1, "a", 5), (1, 7, "c"), (1, 7, "c"), (2, 7, 5), ("x", 7, -5)],
                   (1, "down"))
        self.check(shape, cells, [("x", 7, -5), (1, "a", 5), (1, "b", 5), (2, 7, 5), (1, 7, "c"), (1, 7, "c")], (2, "up"))
        self.check(shape, cells, [(1, 7, "c"), (1, 7, "c"), (1, "a", 5), (1, "b", 5), (2, 7, 5), ("x", 7, -5)],
                   (2, "down"))

    def test_most(self):
        cells = [(k,) for k in (3, 1, 2, 3)]
        shape = ("rows", (COST,))
        for most, rows in [(1, [(1,)]), (3, [(1,), (2,), (3,)]), (4, [(1,), (2,), (3,), (3,)]),
                           (5, [(1,), (2,), (3,), (3,)]), (999, [(1,), (2,), (3,), (3,)]),
                           (0, [(1,), (2,), (3,), (3,)])]:
            self.check(shape, cells, rows, (), most)
        self.check(shape, cells, [(3,), (3,), (2,)], (0, "down"), 3)
        self.check(("groups", 0, (COST,), (("count",),)), [("a", 0), ("b", 0), ("b", 0)], [("b", 2)], (1, "down"), 1)
        self.check(shape, [], [], (), 3)

    def test_row_key(self):
        rows = [(-5, 5, "a"), (-5, 5, "b"), (-5, 10 ** 9, 0), (0, "a", 1), (0, "b", 0), ("a", 1, 1), ("a", "a", 1)]
        for i, first in enumerate(rows):
            self.assertIs(row_key(first).__class__, list)
            for k, second in enumerate(rows):
                self.assertEqual(sign(row_key(first), row_key(second)), sign(i, k))
        self.assertLess(row_key((10 ** 30, 1)), row_key((10 ** 30 + 1, 0)))
        self.assertLess(row_key((10 ** 30, 1)), row_key(("a", 0)))


class Answers(unittest.TestCase):
    LINES = [(1, "sale", "ann", 0, (("cost", 5),)), (2, "sale", "bo", 0, (("cost", 20),)),
             (3, "refund", "ann", 0, (("cost", 5),)), (7, "sale", "ann", 1, (("cost", 7), ("town", "oslo"))),
             (9, "refund", "bo", 0, ()), (9, "refund", "ann", 0, (("cost", 2),))]

    def test_example(self):
        question = asked(("groups", 5, (("this", "subject"),), (("count",), ("sum", ("that", "cost")))), (3, "down"),
                         2, ("pairs", "sale", "refund", 8), ("test", COST, "below", ("value", 30)))
        self.assertEqual(answer(question, SCHEMAS, self.LINES), [(0, "ann", 2, 7), (5, "ann", 1, 2)])
        self.assertEqual(answer(question[:4] + (0,), SCHEMAS, self.LINES),
                         [(0, "ann", 2, 7), (5, "ann", 1, 2), (0, "bo", 1, -5)])
        self.assertEqual(answer(question[:3] + ((2, "up"), 0), SCHEMAS, self.LINES),
                         [(0, "bo", 1, -5), (5, "ann", 1, 2), (0, "ann", 2, 7)])

    def test_nothing(self):
        for source in (("of", "other"), ("pairs", "other", "sale", 9999), ("chains", ("sale", "other"), 9999)):
            for shape in (("rows", (COST,)), ("groups", 0, (), (("count",),)), ("groups", 5, (), (("count",),))):
                self.assertEqual(answer(asked(shape, source=source), SCHEMAS, self.LINES), [])
                self.assertEqual(answer(asked(shape, source=source), {}, []), [])

    def test_kind_without_a_schema(self):
        self.assertEqual(answer(asked(("rows", (COST, ("this", "time")))), {}, self.LINES), [(0, 1), (0, 2), (0, 7)])

    def test_many(self):
        rng = seeded(36)
        seen = 0
        for _ in range(2000):
            question, schemas, lines = random_question(rng), random_schemas(rng), random_lines(rng)
            wanted = plain_answer(question, schemas, lines)
            self.assertEqual(answer(question, schemas, lines), wanted)
            seen += len(wanted) > 1
        self.assertGreater(seen, 200)

    def test_subjects_taken_together(self):
        rng = seeded(46)
        for _ in range(300):
            source, condition, schemas, lines = (random_source(rng), random_condition(rng), random_schemas(rng),
                                                 random_lines(rng, 20, 8))
            shape = ("rows", tuple([random_name(rng) for _ in range(3)]))
            question = asked(shape, source=source, condition=condition)
            alone = []
            for subject in ("ann", "bo", "cy"):
                alone += answer(question, schemas, [line for line in lines if line[2] == subject])
            self.assertEqual(answer(question, schemas, lines), sorted(alone, key=plain_row_key))

    def test_all_lines_of_a_full_store(self):
        lines = plain_order([(k, "sale", "ann", k // 3, (("cost", k),)) for k in range(500)]
                            + [(k, "refund", "ann", k // 3, (("cost", k),)) for k in range(500)])
        question = asked(("groups", 0, (), (("count",),)), source=("pairs", "sale", "refund", 9999))
        self.assertEqual(answer(question, SCHEMAS, lines), [(500 * 501 // 2,)])
        question = asked(("groups", 0, (), (("count",),)), source=("chains", ("sale",) * 4, 9999))
        self.assertEqual(answer(question, SCHEMAS, lines), [(497,)])


if __name__ == "__main__":
    unittest.main()
