"""Points 47 to 50: fixed tests, paths, the lines to which they lead, and answers that are found by them."""

import unittest

from shedbook.index import Index
from shedbook.plans import best_path, fixed_tests, path_lines, paths, run
from tests.asking import (plain_answer, plain_holds, plain_matches, plain_order, plain_value, random_lines,
                          random_question, random_schemas, random_value)
from tests.helpers import seeded

ALL = ("all",)
COST = ("this", "cost")
A, B, C, D = [("test", ("this", word), "is", ("value", k + 1)) for k, word in enumerate("abcd")]
KIND = ("kind",)


def asked(condition=ALL, source=("of", "sale"), shape=("rows", (COST,)), order=(), most=0):
    return (source, condition, shape, order, most)


def tested(word, relation, value, side="this"):
    return ("test", (side, word), relation, ("value", value))


class FixedTests(unittest.TestCase):
    def check(self, condition, tests):
        self.assertEqual(fixed_tests(condition), tests)
        self.assertIs(fixed_tests(condition).__class__, list)

    def test_none(self):
        for condition in (ALL, ("or", (A, B)), ("or", (A, A)), ("negate", A), ("negate", ("and", (A, B))),
                          ("negate", ("negate", A)), ("or", (("and", (A, B)), C))):
            self.check(condition, [])

    def test_test(self):
        for test in (A, ("test", COST, "differs", COST), ("test", ("value", 1), "is", ("that", "a"))):
            self.check(test, [test])

    def test_and(self):
        self.check(("and", (A, B)), [A, B])
        self.check(("and", (B, A)), [B, A])
        self.check(("and", (A, B, A, A)), [A, B, A, A])
        self.check(("and", (A, ("or", (B, C)), ("negate", D), B)), [A, B])
        self.check(("and", (("or", (B, C)), ("negate", D))), [])
        self.check(("and", (("and", (D, ("and", (C, D)))), B, ("and", (A, D)))), [D, C, D, B, A, D])
        self.check(("and", (("negate", ("and", (A, B))), ("or", (("and", (A, B)), A)), C)), [C])


class Paths(unittest.TestCase):
    def check(self, test, *found):
        for source in (("of", "sale"), ("pairs", "a", "b", 3), ("chains", ("a", "b"), 3)):
            self.assertEqual(paths(asked(test, source)), [KIND] + list(found), test)

    def test_subject(self):
        self.check(tested("subject", "is", "ann"), ("subject", "ann"))
        for relation in ("differs", "below", "above"):
            self.check(tested("subject", relation, "ann"))
        for relation in ("is", "differs", "below", "above"):
            self.check(tested("subject", relation, 5))

    def test_times(self):
        for relation, number, low, high in [
                ("is", 0, 0, 0), ("is", 5, 5, 5), ("is", 9999, 9999, 9999),
                ("below", 1, 0, 0), ("below", 5, 0, 4), ("below", 9999, 0, 9998), ("below", 10000, 0, 9999),
                ("below", 10001, 0, 9999), ("below", 999999, 0, 9999),
                ("above", 9998, 9999, 9999), ("above", 5, 6, 9999), ("above", 0, 1, 9999), ("above", -1, 0, 9999),
                ("above", -2, 0, 9999), ("above", -999999, 0, 9999)]:
            self.check(tested("time", relation, number), ("times", low, high))

    def test_no_times(self):
        for relation, number in [("is", -1), ("is", 10000), ("is", -999999), ("is", 999999), ("below", 0), ("below", -1),
                                 ("below", -999999), ("above", 9999), ("above", 10000), ("above", 999999)]:
            self.check(tested("time", relation, number), ("times", 1, 0))

    def test_time_gives_none(self):
        for number in (-1, 0, 5, 9999, 10000):
            self.check(tested("time", "differs", number))
        for relation in ("is", "differs", "below", "above"):
            self.check(tested("time", relation, "ann"))

    def test_serial(self):
        for relation in ("is", "differs", "below", "above"):
            self.check(tested("serial", relation, 5))
            self.check(tested("serial", relation, "ann"))

    def test_fields(self):
        for word in ("cost", "kind", "times", "that"):
            for value in (0, 5, -999999, "ann"):
                self.check(tested(word, "is", value), ("field", word, value))
                for relation in ("differs", "below", "above"):
                    self.check(tested(word, relation, value))

    def test_other_sides(self):
        for word in ("subject", "time", "cost"):
            for value in (5, "ann"):
                self.check(tested(word, "is", value, "that"))
                self.check(("test", ("value", value), "is", ("this", word)))
                self.check(("test", ("value", value), "is", ("value", value)))
            self.check(("test", ("this", word), "is", ("this", word)))
            self.check(("test", ("this", word), "is", ("that", word)))

    def test_order_and_equal_paths(self):
        self.check(ALL)
        self.check(("and", (A, A)), ("field", "a", 1))
        self.check(("and", (B, A, ("and", (B, C)))), ("field", "b", 2), ("field", "a", 1), ("field", "c", 3))
        self.check(("and", (tested("time", "below", 5), tested("time", "is", 4), tested("time", "below", 5),
                            tested("subject", "is", "bo"), tested("subject", "is", "ann"))),
                   ("times", 0, 4), ("times", 4, 4), ("subject", "bo"), ("subject", "ann"))
        self.check(("and", (tested("time", "is", 3), tested("time", "below", 0), tested("time", "above", 9999))),
                   ("times", 3, 3), ("times", 1, 0))
        self.check(("and", (tested("a", "is", 1), tested("a", "is", "b"))), ("field", "a", 1), ("field", "a", "b"))
        self.check(("or", (A, B)))
        self.check(("negate", A))


SCHEMAS = {"sale": [("cost", "int", 5), ("town", "word", "lund")], "refund": [("cost", "int", 1)]}
ONE = (3, "sale", "ann", 0, (("cost", 7), ("town", "oslo")))
TWO = (4, "sale", "bo", 0, (("cost", 5), ("town", 7)))
THREE = (4, "sale", "bo", 1, (("cost", "oslo"), ("other", 0)))
FOUR = (6, "sale", "ann", 0, (("other", 9),))
FIVE = (7, "refund", "ann", 0, (("cost", 7),))
SALES = [ONE, TWO, THREE, FOUR]


class PathLines(unittest.TestCase):
    def check(self, path, lines, schemas=SCHEMAS, source=("of", "sale")):
        index = Index(SALES + [FIVE])
        for condition in (ALL, tested("cost", "is", 999)):
            found = path_lines(path, asked(condition, source), schemas, index)
            self.assertEqual(found, lines, path)
            self.assertIs(found.__class__, list)

    def test_kind(self):
        self.check(KIND, SALES)
        self.check(KIND, SALES, source=("pairs", "sale", "refund", 5))
        self.check(KIND, [FIVE], source=("pairs", "refund", "sale", 5))
        self.check(KIND, [FIVE], source=("chains", ("refund", "sale"), 5))
        self.check(KIND, [], source=("chains", ("visit", "sale"), 5))

    def test_subject(self):
        self.check(("subject", "ann"), [ONE, FOUR])
        self.check(("subject", "bo"), [TWO, THREE])
        self.check(("subject", "cy"), [])
        self.check(("subject", "ann"), [FIVE], source=("pairs", "refund", "sale", 5))

    def test_times(self):
        self.check(("times", 0, 9999), SALES)
        self.check(("times", 4, 5), [TWO, THREE])
        self.check(("times", 3, 3), [ONE])
        self.check(("times", 7, 9999), [])
        self.check(("times", 1, 0), [])

    def test_fields(self):
        self.check(("field", "cost", 7), [ONE])
        self.check(("field", "town", "oslo"), [ONE])
        self.check(("field", "cost", 8), [])
        self.check(("field", "cost", 7), [FIVE], source=("pairs", "refund", "sale", 5))

    def test_default(self):
        self.check(("field", "cost", 5), [TWO, THREE, FOUR])
        self.check(("field", "town", "lund"), [TWO, THREE, FOUR])

    def test_other_sort(self):
        self.check(("field", "cost", "oslo"), [])
        self.check(("field", "town", 7), [])

    def test_no_column(self):
        for schemas in (SCHEMAS, {}, {"refund": [("other", "int", 9)]}, {"sale": []}):
            self.check(("field", "other", 0), SALES, schemas)
            self.check(("field", "other", 9), [], schemas)
            self.check(("field", "other", "a"), [], schemas)

    def test_no_schema(self):
        self.check(("field", "cost", 0), SALES, {})
        self.check(("field", "cost", 7), [], {})
        self.check(("field", "cost", 5), [], {"refund": [("cost", "int", 5)]})

    def test_parts_of_lines(self):
        """No question has such a path, but point 49 tells where it leads: a column of this name is not asked."""
        for schemas in (SCHEMAS, {"sale": [("serial", "int", 0), ("subject", "word", "ann"), ("time", "int", 9)]}):
            self.check(("field", "serial", 1), [THREE], schemas)
            self.check(("field", "time", 4), [TWO, THREE], schemas)
            self.check(("field", "subject", "ann"), [ONE, FOUR], schemas)
            self.check(("field", "time", 7), [], schemas)

    def test_many(self):
        rng = seeded(49)
        for _ in range(600):
            lines, schemas = random_lines(rng), random_schemas(rng)
            kind, word, value = rng.choice(("sale", "visit")), rng.choice(("cost", "town", "other")), random_value(rng)
            found = path_lines(("field", word, value), asked(source=("of", kind)), schemas, Index(lines))
            wanted = [line for line in lines
                      if line[1] == kind and plain_value(("this", word), schemas, (line, line)) == value]
            self.assertEqual(found, wanted)


class BestPath(unittest.TestCase):
    def check(self, condition, path, source=("of", "sale"), schemas=SCHEMAS, lines=tuple(SALES)):
        self.assertEqual(best_path(asked(condition, source), schemas, Index(list(lines))), path)

    def test_only_one(self):
        self.check(ALL, KIND)
        self.check(("or", (A, B)), KIND)

    def test_fewest(self):
        self.check(tested("subject", "is", "bo"), ("subject", "bo"))
        self.check(tested("time", "is", 3), ("times", 3, 3))
        self.check(tested("cost", "is", 7), ("field", "cost", 7))
        self.check(("and", (tested("subject", "is", "bo"), tested("time", "is", 3))), ("times", 3, 3))
        self.check(("and", (tested("time", "is", 3), tested("subject", "is", "bo"))), ("times", 3, 3))
        self.check(("and", (tested("cost", "is", 5), tested("subject", "is", "bo"))), ("subject", "bo"))

    def test_first_of_several(self):
        self.check(tested("time", "above", 1), KIND)
        self.check(tested("other", "is", 0), KIND)
        self.check(("and", (tested("time", "is", 4), tested("subject", "is", "bo"))), ("times", 4, 4))
        self.check(("and", (tested("subject", "is", "bo"), tested("time", "is", 4))), ("subject", "bo"))
        self.check(("and", (tested("subject", "is", "ann"), tested("subject", "is", "bo"))), ("subject", "ann"))

    def test_none(self):
        self.check(("and", (tested("time", "is", 3), tested("cost", "is", 8), tested("time", "is", 9))),
                   ("field", "cost", 8))
        self.check(("and", (tested("time", "above", 9999), tested("cost", "is", 8))), ("times", 1, 0))
        self.check(tested("cost", "is", 7), KIND, lines=())
        self.check(tested("subject", "is", "ann"), KIND, source=("of", "visit"))


def guided(rng, question, schemas, lines):
    """Return the question with a condition of fixed tests that hold for one of the lines, if there is any."""
    kind = question[0][1] if question[0][0] != "chains" else question[0][1][0]
    own = [line for line in lines if line[1] == kind]
    if not own:
        return question
    line = rng.choice(own)
    tests = [tested("time", "below", line[0] + rng.randint(1, 3)), tested("time", "above", line[0] - rng.randint(1, 3))]
    for word in ("subject", "time", "cost", "town", "other"):
        tests.append(tested(word, "is", plain_value(("this", word), schemas, (line, line))))
    tests = rng.sample(tests, rng.randint(1, 4))
    condition = tests[0] if len(tests) == 1 else ("and", tuple(tests))
    return (question[0], condition) + question[2:]


class Run(unittest.TestCase):
    def test_every_path_would_do(self):
        """Point 50: each first line of a match for which the condition holds is among the lines of each path."""
        rng = seeded(50)
        seen = 0
        for _ in range(800):
            question, schemas, lines = random_question(rng), random_schemas(rng), random_lines(rng, 30)
            question = guided(rng, question, schemas, lines)
            found = [match for match in plain_matches(question[0], lines)
                     if plain_holds(question[1], schemas, match)]
            for path in paths(question):
                led = path_lines(path, question, schemas, Index(lines))
                self.assertEqual(led, plain_order(led))
                self.assertTrue(all([match[0] in led for match in found]))
                seen += path != KIND and len(found) > 0
        self.assertGreater(seen, 50)

    def test_answers(self):
        rng = seeded(51)
        seen = {}
        for _ in range(1500):
            question, schemas, lines = random_question(rng), random_schemas(rng), random_lines(rng, 30)
            if rng.random() < 0.7:
                question = guided(rng, question, schemas, lines)
            wanted = plain_answer(question, schemas, lines)
            index = Index(lines)
            parts = index.parts()
            self.assertEqual(run(question, schemas, index), wanted)
            self.assertEqual(index.parts(), parts)
            if wanted:
                mark = (question[0][0], best_path(question, schemas, index)[0])
                seen[mark] = seen.get(mark, 0) + 1
        self.assertEqual(len(seen), 12, seen)

    def test_first_and_last_lines_by_different_kinds(self):
        index = Index(SALES + [FIVE])
        shape = ("rows", (("this", "time"), ("that", "time")))
        source = ("pairs", "sale", "refund", 9)
        self.assertEqual(run(asked(ALL, source, shape), SCHEMAS, index), [(3, 7), (6, 7)])
        self.assertEqual(run(asked(tested("time", "is", 3), source, shape), SCHEMAS, index), [(3, 7)])
        self.assertEqual(run(asked(tested("subject", "is", "bo"), source, shape), SCHEMAS, index), [])
        source = ("chains", ("sale", "sale", "refund"), 9)
        self.assertEqual(run(asked(tested("cost", "is", 7), source, shape), SCHEMAS, index), [(3, 7)])
        source = ("pairs", "sale", "sale", 9)
        self.assertEqual(run(asked(tested("cost", "is", 7), source, shape), SCHEMAS, index), [(3, 6)])

    def test_nothing_is_shared(self):
        index = Index(SALES + [FIVE])
        question = asked()
        first = run(question, SCHEMAS, index)
        wanted = list(first)
        first.clear()
        self.assertEqual(run(question, SCHEMAS, index), wanted)
        for path in (KIND, ("subject", "ann"), ("times", 0, 9), ("field", "cost", 7), ("field", "cost", 5)):
            led = path_lines(path, question, SCHEMAS, index)
            wanted = list(led)
            led.append("x")
            self.assertEqual(path_lines(path, question, SCHEMAS, index), wanted)
        self.assertEqual(index.all_lines(), SALES + [FIVE])


if __name__ == "__main__":
    unittest.main()
