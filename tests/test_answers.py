"""Points 51 and 52: what touches a question, and kept answers."""

import unittest

from shedbook.answers import Answers, touches
from shedbook.index import Index
from shedbook.questions import write_question
from tests.asking import KINDS, plain_answer, random_lines, random_question, random_schemas
from tests.helpers import check_unshared, seeded

ALL = ("all",)
COST = ("this", "cost")
OF = ("of", "sale")
PAIRS = ("pairs", "sale", "refund", 5)
CHAINS = ("chains", ("sale", "visit", "refund"), 5)
SCHEMAS = {"sale": [("cost", "int", 5)]}
ONE = (3, "sale", "ann", 0, (("cost", 7),))
TWO = (4, "sale", "bo", 0, ())


def asked(condition=ALL, source=OF):
    return (source, condition, ("rows", (COST, ("this", "time"))), (), 0)


def tested(word, relation, value, side="this"):
    return ("test", (side, word), relation, ("value", value))


def line_of(kind="sale", subject="ann", time=5):
    return (time, kind, subject, 0, ())


class Touches(unittest.TestCase):
    def check(self, touched, condition, source, *lines):
        for line in lines:
            self.assertIs(touches(asked(condition, source), line), touched, line)

    def test_kinds(self):
        for source, kinds in [(OF, ["sale"]), (PAIRS, ["sale", "refund"]), (CHAINS, ["sale", "visit", "refund"]),
                              (("pairs", "sale", "sale", 5), ["sale"])]:
            for kind in ("sale", "refund", "visit", "other"):
                self.check(kind in kinds, ALL, source, line_of(kind))
                self.check(kind in kinds, tested("cost", "is", 3), source, line_of(kind))
                self.check(kind in kinds, ("or", (tested("subject", "is", "bo"), tested("time", "is", 1))), source,
                           line_of(kind))

    def test_subject(self):
        is_ann = tested("subject", "is", "ann")
        for source in (OF, PAIRS, CHAINS):
            for condition in (is_ann, ("and", (tested("cost", "is", 3), is_ann)), ("and", (is_ann, is_ann))):
                self.check(True, condition, source, line_of("sale", "ann"))
                self.check(False, condition, source, line_of("sale", "bo"), line_of("sale", "anna"))
                self.check(False, condition, source, line_of("other", "ann"))
                self.check(source != OF, condition, source, line_of("refund", "ann"))
                self.check(False, condition, source, line_of("refund", "bo"))
            self.check(True, ("negate", is_ann), source, line_of("sale", "bo"))
            self.check(True, tested("subject", "differs", "ann"), source, line_of("sale", "bo"))
            self.check(True, tested("subject", "is", "ann", "that"), source, line_of("sale", "bo"))
            self.check(True, tested("subject", "is", 5), source, line_of("sale", "bo"))

    def test_two_subjects(self):
        for source in (OF, PAIRS, CHAINS):
            for words in (("ann", "bo"), ("bo", "ann")):
                condition = ("and", tuple([tested("subject", "is", word) for word in words]))
                self.check(False, condition, source, line_of("sale", "ann"), line_of("sale", "bo"),
                           line_of("sale", "cy"), line_of("refund", "ann"))

    def test_times_with_of(self):
        for condition, times in [(tested("time", "is", 5), [5]), (tested("time", "below", 5), [0, 4]),
                                 (tested("time", "above", 5), [6, 9999]), (tested("time", "below", 0), []),
                                 (("and", (tested("time", "above", 3), tested("time", "below", 6))), [4, 5]),
                                 (("and", (tested("time", "is", 3), tested("time", "is", 4))), []),
                                 (tested("time", "differs", 5), [0, 4, 5, 6, 9999]),
                                 (tested("time", "is", 5, "that"), [0, 4, 5, 6, 9999])]:
            for time in (0, 4, 5, 6, 9999):
                self.check(time in times, condition, OF, line_of("sale", "ann", time))

    def test_times_with_the_other_sources(self):
        for source in (PAIRS, CHAINS):
            for condition in (tested("time", "is", 5), tested("time", "below", 0)):
                for time in (0, 4, 5, 6, 9999):
                    self.check(True, condition, source, line_of("sale", "ann", time), line_of("refund", "ann", time))
            condition = ("and", (tested("time", "is", 5), tested("subject", "is", "ann")))
            self.check(True, condition, source, line_of("sale", "ann", 9))
            self.check(False, condition, source, line_of("sale", "bo", 5))

    def test_times_and_subject(self):
        condition = ("and", (tested("time", "below", 5), tested("subject", "is", "ann")))
        self.check(True, condition, OF, line_of("sale", "ann", 4))
        self.check(False, condition, OF, line_of("sale", "ann", 5), line_of("sale", "bo", 4), line_of("visit", "ann", 4))

    def test_untouched_answers_stay(self):
        rng = seeded(51)
        seen = 0
        for _ in range(1500):
            question, schemas, lines = random_question(rng), random_schemas(rng), random_lines(rng, 8, 5)
            question = (question[0], ("and", (question[1], tested("time", "is", 3)))) + question[2:]
            if question[1][1][0] == ALL:
                question = (question[0], tested("subject", "is", "ann")) + question[2:]
            for line in lines:
                if not touches(question, line):
                    seen += 1
                    left = [other for other in lines if other != line]
                    self.assertEqual(plain_answer(question, schemas, lines), plain_answer(question, schemas, left))
        self.assertGreater(seen, 500)


class Kept(unittest.TestCase):
    def setUp(self):
        self.index = Index([ONE, TWO])
        self.questions = [asked(), asked(tested("subject", "is", "ann")), asked(tested("time", "is", 3)),
                          asked(ALL, PAIRS), asked(ALL, ("of", "visit"))]
        self.texts = [write_question(question) for question in self.questions]
        self.answers = Answers()
        for question in self.questions:
            self.answers.ask(question, SCHEMAS, self.index)

    def left(self, *places):
        return sorted([self.texts[k] for k in places])

    def test_none(self):
        answers = Answers()
        self.assertEqual(answers.kept(), [])
        self.assertEqual(answers.line_changed(ONE), [])
        self.assertEqual(answers.schema_changed("sale"), [])

    def test_ask(self):
        self.assertEqual(self.answers.kept(), self.left(0, 1, 2, 3, 4))
        self.assertEqual(self.answers.ask(self.questions[0], SCHEMAS, self.index), [(5, 4), (7, 3)])
        self.assertEqual(self.answers.ask(self.questions[1], SCHEMAS, self.index), [(7, 3)])
        self.assertEqual(self.answers.kept(), self.left(0, 1, 2, 3, 4))

    def test_answers_are_kept(self):
        empty = Index([])
        self.assertEqual(self.answers.ask(self.questions[0], {}, empty), [(5, 4), (7, 3)])
        self.assertEqual(self.answers.line_changed(line_of("sale", "bo", 9)), self.left(0, 3))
        self.assertEqual(self.answers.ask(self.questions[0], {}, empty), [])
        self.assertEqual(self.answers.ask(self.questions[1], {}, empty), [(7, 3)])

    def test_line_changed(self):
        self.assertEqual(self.answers.line_changed(line_of("sale", "bo", 3)), self.left(0, 2, 3))
        self.assertEqual(self.answers.kept(), self.left(1, 4))
        self.assertEqual(self.answers.line_changed(line_of("sale", "bo", 3)), [])
        self.assertEqual(self.answers.line_changed(line_of("visit", "bo", 3)), self.left(4))
        self.assertEqual(self.answers.line_changed(line_of("sale", "ann", 9)), self.left(1))
        self.assertEqual(self.answers.kept(), [])

    def test_line_of_no_question(self):
        self.assertEqual(self.answers.line_changed(line_of("other")), [])
        self.assertEqual(self.answers.kept(), self.left(0, 1, 2, 3, 4))

    def test_schema_changed(self):
        self.assertEqual(self.answers.schema_changed("other"), [])
        self.assertEqual(self.answers.schema_changed("refund"), self.left(3))
        self.assertEqual(self.answers.kept(), self.left(0, 1, 2, 4))
        self.assertEqual(self.answers.schema_changed("sale"), self.left(0, 1, 2))
        self.assertEqual(self.answers.schema_changed("sale"), [])
        self.assertEqual(self.answers.kept(), self.left(4))

    def test_nothing_is_shared(self):
        for find in (self.answers.kept, lambda: self.answers.ask(self.questions[0], SCHEMAS, self.index)):
            check_unshared(self, find)
        fresh = Answers()
        first = fresh.ask(self.questions[0], SCHEMAS, self.index)
        first.append("x")
        self.assertEqual(fresh.ask(self.questions[0], SCHEMAS, self.index), [(5, 4), (7, 3)])
        self.answers.line_changed(ONE).append("x")
        self.assertEqual(self.answers.line_changed(ONE), [])
        self.assertEqual(Answers().kept(), [])


class AfterChanges(unittest.TestCase):
    def test_asking_gives_what_asking_anew_gives(self):
        rng = seeded(52)
        seen = 0
        for _ in range(60):
            questions = [random_question(rng) for _ in range(6)]
            pool, schemas = random_lines(rng, 20), random_schemas(rng)
            index, answers = Index([]), Answers()
            for _ in range(40):
                if pool and rng.random() < 0.7:
                    line = rng.choice(pool)
                    if index.remove(line) or index.add(line):
                        answers.line_changed(line)
                elif rng.random() < 0.5:
                    kind = rng.choice(KINDS)
                    schemas = {other: schemas[other] for other in schemas if other != kind}
                    schemas.update({other: columns for other, columns in random_schemas(rng).items() if other == kind})
                    answers.schema_changed(kind)
                question = rng.choice(questions)
                wanted = plain_answer(question, schemas, index.all_lines())
                seen += write_question(question) in answers.kept()
                self.assertEqual(answers.ask(question, schemas, index), wanted)
        self.assertGreater(seen, 300)


if __name__ == "__main__":
    unittest.main()
