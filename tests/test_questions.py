"""Points 31, 34, 39, 40 and 43: kinds, names, written questions, and that they are read back."""

import unittest

from shedbook.questions import kinds_of, read_question, shows_subject, write_question
from tests.asking import (SUMS, loose_text, plain_text, random_condition, random_question)
from tests.helpers import seeded

EXAMPLE = ("pairs sale refund 30\n"
           'where cost above 10 and not (that.reason is "broken" or subject is "ann")\n'
           "groups by 100 subject : count sum cost\n"
           "order 2 down\n"
           "first 5")
COST = ("this", "cost")
TOWN = ("that", "town")
ROWS = ("rows", (COST,))
OF = ("of", "sale")
# Tests that are written as a is 1, b is 2 and so on.
A, B, C, D = [("test", ("this", word), "is", ("value", k + 1)) for k, word in enumerate("abcd")]


def asked(source=OF, condition=("all",), shape=ROWS, order=(), most=0):
    return (source, condition, shape, order, most)


class KindsOf(unittest.TestCase):
    def test_kinds(self):
        for source, kinds in [
                (("of", "sale"), ["sale"]),
                (("pairs", "sale", "refund", 3), ["refund", "sale"]),
                (("pairs", "refund", "sale", 3), ["refund", "sale"]),
                (("pairs", "sale", "sale", 0), ["sale"]),
                (("chains", ("b", "a"), 1), ["a", "b"]),
                (("chains", ("b", "b"), 1), ["b"]),
                (("chains", ("c", "a", "b", "a"), 1), ["a", "b", "c"]),
                (("chains", ("d", "c", "b", "a"), 1), ["a", "b", "c", "d"]),
                (("chains", ("a", "ab", "aa"), 1), ["a", "aa", "ab"])]:
            self.assertEqual(kinds_of(asked(source)), kinds)
            self.assertIs(kinds_of(asked(source)).__class__, list)


class ShowsSubject(unittest.TestCase):
    def shows(self, **parts):
        return shows_subject(asked(**parts))

    def test_not(self):
        value = ("test", COST, "is", ("value", "subject"))
        for parts in [{}, {"source": ("of", "subject")}, {"condition": value},
                      {"condition": ("negate", ("or", (value, value)))},
                      {"condition": ("test", ("value", "subject"), "is", ("value", "subject"))},
                      {"shape": ("rows", (("this", "subjects"), ("that", "time"), ("this", "serial")))},
                      {"shape": ("groups", 5, (), (("count",),))},
                      {"shape": ("groups", 0, (COST, TOWN), (("count",), ("unlike", TOWN)))},
                      {"source": ("chains", ("subject", "subject"), 3)},
                      {"source": ("pairs", "subject", "subject", 3)}]:
            self.assertIs(self.shows(**parts), False, parts)

    def test_in_condition(self):
        for side in ("this", "that"):
            name = (side, "subject")
            left = ("test", name, "is", ("value", 1))
            right = ("test", ("value", 1), "above", name)
            for test in (left, right, ("test", name, "differs", name)):
                for condition in (test, ("negate", test), ("and", (A, test)), ("or", (test, A)),
                                  ("and", (A, ("negate", ("or", (A, B, test))))), ("negate", ("negate", test))):
                    self.assertIs(self.shows(condition=condition), True)

    def test_in_shape(self):
        for side in ("this", "that"):
            name = (side, "subject")
            self.assertIs(self.shows(shape=("rows", (name,))), True)
            self.assertIs(self.shows(shape=("rows", (COST, TOWN, name))), True)
            self.assertIs(self.shows(shape=("groups", 0, (name,), (("count",),))), True)
            self.assertIs(self.shows(shape=("groups", 1, (COST, name), (("count",),))), True)
            for word in SUMS[1:]:
                self.assertIs(self.shows(shape=("groups", 0, (), ((word, name),))), True)
                self.assertIs(self.shows(shape=("groups", 0, (COST,), (("count",), ("sum", COST), (word, name)))), True)


class WriteQuestion(unittest.TestCase):
    def check(self, text, **parts):
        question = asked(**parts)
        self.assertEqual(write_question(question), text)
        self.assertEqual(read_question(text), question)

    def test_example(self):
        question = (
            ("pairs", "sale", "refund", 30),
            ("and", (("test", COST, "above", ("value", 10)),
                     ("negate", ("or", (("test", ("that", "reason"), "is", ("value", "broken")),
                                        ("test", ("this", "subject"), "is", ("value", "ann"))))))),
            ("groups", 100, (("this", "subject"),), (("count",), ("sum", COST))),
            (2, "down"), 5)
        self.assertEqual(write_question(question), EXAMPLE)
        self.assertEqual(read_question(EXAMPLE), question)

    def test_sources(self):
        self.check("of sale\nrows cost")
        self.check("of abcdefghijkl\nrows cost", source=("of", "abcdefghijkl"))
        self.check("pairs sale sale 0\nrows cost", source=("pairs", "sale", "sale", 0))
        self.check("pairs a b 9999\nrows cost", source=("pairs", "a", "b", 9999))
        self.check("chains a b 0\nrows cost", source=("chains", ("a", "b"), 0))
        self.check("chains a b a 12\nrows cost", source=("chains", ("a", "b", "a"), 12))
        self.check("chains a a a a 9999\nrows cost", source=("chains", ("a", "a", "a", "a"), 9999))

    def test_reserved_words_are_kinds(self):
        self.check("of by\nrows cost", source=("of", "by"))
        self.check("pairs not and 1\nrows cost", source=("pairs", "not", "and", 1))
        self.check("chains of is where pairs 1\nrows cost", source=("chains", ("of", "is", "where", "pairs"), 1))

    def test_shapes(self):
        self.check("of sale\nrows that.town", shape=("rows", (TOWN,)))
        self.check("of sale\nrows cost cost that.town a b that.that",
                   shape=("rows", (COST, COST, TOWN, ("this", "a"), ("this", "b"), ("that", "that"))))
        self.check("of sale\ngroups : count", shape=("groups", 0, (), (("count",),)))
        self.check("of sale\ngroups by 1 : count", shape=("groups", 1, (), (("count",),)))
        self.check("of sale\ngroups by 9999 that.town : count", shape=("groups", 9999, (TOWN,), (("count",),)))
        self.check("of sale\ngroups cost : count", shape=("groups", 0, (COST,), (("count",),)))
        self.check("of sale\ngroups cost that.town cost cost : unlike cost",
                   shape=("groups", 0, (COST, TOWN, COST, COST), (("unlike", COST),)))
        self.check("of sale\ngroups : count sum cost least that.town greatest cost unlike that.town count",
                   shape=("groups", 0, (), (("count",), ("sum", COST), ("least", TOWN), ("greatest", COST),
                                            ("unlike", TOWN), ("count",))))
        for word in SUMS[1:]:
            self.check("of sale\ngroups : " + word + " cost", shape=("groups", 0, (), ((word, COST),)))
        self.check("of sale\ngroups count sum : sum sum greatest count",
                   shape=("groups", 0, (("this", "count"), ("this", "sum")),
                          (("sum", ("this", "sum")), ("greatest", ("this", "count")))))

    def test_order_and_most(self):
        self.check("of sale\nrows cost\norder 0 up", order=(0, "up"))
        self.check("of sale\nrows cost\norder 0 down", order=(0, "down"))
        self.check("of sale\nrows cost\nfirst 1", most=1)
        self.check("of sale\nrows cost\nfirst 999", most=999)
        self.check("of sale\nrows cost\norder 0 up\nfirst 10", order=(0, "up"), most=10)
        self.check("of sale\nwhere a is 1\nrows cost\nfirst 10", condition=A, most=10)

    def test_last_column(self):
        for text, column in [("rows a", 0), ("rows a b c", 2), ("rows a b c d e f", 5), ("groups : count", 0),
                             ("groups by 5 : count", 1), ("groups a : count", 1), ("groups by 5 a b c d : count", 5),
                             ("groups by 5 a b c d : count sum a count count count count", 10)]:
            whole = "of sale\n" + text + "\norder " + str(column) + " down"
            self.assertEqual(read_question(whole)[3], (column, "down"))
            self.assertEqual(write_question(read_question(whole)), whole)


class WriteCondition(unittest.TestCase):
    def check(self, text, condition):
        whole = "of sale\nwhere " + text + "\nrows cost"
        self.assertEqual(write_question(asked(condition=condition)), whole)
        self.assertEqual(read_question(whole), asked(condition=condition))

    def test_tests(self):
        for relation in ("is", "differs", "below", "above"):
            self.check("cost " + relation + " that.town", ("test", COST, relation, TOWN))
        self.check('"ann" is -999999', ("test", ("value", "ann"), "is", ("value", -999999)))
        self.check('999999 above "abcdefghijkl"', ("test", ("value", 999999), "above", ("value", "abcdefghijkl")))
        self.check('0 differs "and"', ("test", ("value", 0), "differs", ("value", "and")))
        self.check("time is that.that", ("test", ("this", "time"), "is", ("that", "that")))

    def test_brackets(self):
        for text, condition in [
                ("a is 1 and b is 2", ("and", (A, B))),
                ("a is 1 or b is 2", ("or", (A, B))),
                ("a is 1 and b is 2 and c is 3", ("and", (A, B, C))),
                ("a is 1 or b is 2 or c is 3", ("or", (A, B, C))),
                ("a is 1 and (b is 2 or c is 3)", ("and", (A, ("or", (B, C))))),
                ("(a is 1 or b is 2) and c is 3", ("and", (("or", (A, B)), C))),
                ("a is 1 and (b is 2 and c is 3)", ("and", (A, ("and", (B, C))))),
                ("(a is 1 and b is 2) and c is 3", ("and", (("and", (A, B)), C))),
                ("a is 1 or (b is 2 or c is 3)", ("or", (A, ("or", (B, C))))),
                ("(a is 1 or b is 2) or c is 3", ("or", (("or", (A, B)), C))),
                ("a is 1 and b is 2 or c is 3", ("or", (("and", (A, B)), C))),
                ("a is 1 or b is 2 and c is 3", ("or", (A, ("and", (B, C))))),
                ("a is 1 and b is 2 or c is 3 and d is 4", ("or", (("and", (A, B)), ("and", (C, D))))),
                ("not a is 1", ("negate", A)),
                ("not (a is 1 and b is 2)", ("negate", ("and", (A, B)))),
                ("not (a is 1 or b is 2)", ("negate", ("or", (A, B)))),
                ("not not a is 1", ("negate", ("negate", A))),
                ("not not (a is 1 or b is 2)", ("negate", ("negate", ("or", (A, B))))),
                ("not a is 1 and b is 2", ("and", (("negate", A), B))),
                ("a is 1 or not b is 2", ("or", (A, ("negate", B)))),
                ("not (a is 1 and (b is 2 or not c is 3))",
                 ("negate", ("and", (A, ("or", (B, ("negate", C))))))),
                ("(((((a is 1 or b is 2) or c is 3) or a is 1) or b is 2) or c is 3) or d is 4",
                 ("or", (("or", (("or", (("or", (("or", (("or", (A, B)), C)), A)), B)), C)), D))),
                ("not not not not not not a is 1",
                 ("negate", ("negate", ("negate", ("negate", ("negate", ("negate", A)))))))]:
            with self.subTest(text):
                self.check(text, condition)

    def test_twelve_tests(self):
        self.check(" and ".join(["a is 1"] * 12), ("and", (A,) * 12))
        self.check(" or ".join(["a is 1 and b is 2"] * 6), ("or", (("and", (A, B)),) * 6))

    def test_beyond_the_limits_writing_raises_nothing(self):
        deep = A
        for _ in range(8):
            deep = ("negate", deep)
        self.assertEqual(write_question(asked(condition=deep)), "of sale\nwhere " + "not " * 8 + "a is 1\nrows cost")
        many = ("or", (A,) * 14)
        self.assertEqual(write_question(asked(condition=many)),
                         "of sale\nwhere " + " or ".join(["a is 1"] * 14) + "\nrows cost")


class ReadQuestion(unittest.TestCase):
    def test_spaces(self):
        wanted = read_question(EXAMPLE)
        for text in [
                EXAMPLE.replace(" ", "  "), EXAMPLE.replace("\n", " \n   "), "  " + EXAMPLE + "   ",
                EXAMPLE.replace("(", " ( ").replace(")", " ) "), EXAMPLE.replace(" (", "(").replace(") ", ")"),
                EXAMPLE.replace(" : ", ":"), EXAMPLE.replace(" : ", "     :     "),
                EXAMPLE.replace(' "', '"').replace('" ', '"')]:
            self.assertEqual(read_question(text), wanted)
            self.assertEqual(write_question(read_question(text)), EXAMPLE)

    def test_tokens_without_spaces(self):
        self.assertEqual(read_question('of sale\nwhere(("ann"is"bo")and(not(a is"x"or 1 is"y")))\ngroups:count'),
                         asked(condition=("and", (
                             ("test", ("value", "ann"), "is", ("value", "bo")),
                             ("negate", ("or", (("test", ("this", "a"), "is", ("value", "x")),
                                                ("test", ("value", 1), "is", ("value", "y"))))))),
                               shape=("groups", 0, (), (("count",),))))

    def test_further_brackets(self):
        for text, condition, written in [
                ("(a is 1)", A, "a is 1"),
                ("((((((a is 1))))))", A, "a is 1"),
                ("not (a is 1)", ("negate", A), "not a is 1"),
                ("(not a is 1)", ("negate", A), "not a is 1"),
                ("not (not (a is 1))", ("negate", ("negate", A)), "not not a is 1"),
                ("(a is 1 and b is 2)", ("and", (A, B)), "a is 1 and b is 2"),
                ("(a is 1 or b is 2)", ("or", (A, B)), "a is 1 or b is 2"),
                ("(a is 1 and b is 2) or c is 3", ("or", (("and", (A, B)), C)), "a is 1 and b is 2 or c is 3"),
                ("(a is 1) and ((b is 2))", ("and", (A, B)), "a is 1 and b is 2"),
                ("((a is 1 or b is 2)) or c is 3", ("or", (("or", (A, B)), C)), "(a is 1 or b is 2) or c is 3"),
                ("not ((a is 1) and b is 2)", ("negate", ("and", (A, B))), "not (a is 1 and b is 2)")]:
            with self.subTest(text):
                question = read_question("of sale\nwhere " + text + "\nrows cost")
                self.assertEqual(question, asked(condition=condition))
                self.assertEqual(write_question(question), "of sale\nwhere " + written + "\nrows cost")

    def test_levels_end(self):
        six = "((((((a is 1))))))"
        deep = "not (not (not (a is 1)))"
        whole = "of sale\nwhere " + " and ".join([six, deep, six, deep]) + "\nrows cost"
        negated = ("negate", ("negate", ("negate", A)))
        self.assertEqual(read_question(whole), asked(condition=("and", (A, negated, A, negated))))

    def test_many_questions(self):
        rng = seeded(30)
        for _ in range(1500):
            question = random_question(rng)
            text = plain_text(question)
            self.assertEqual(write_question(question), text)
            self.assertEqual(read_question(text), question)

    def test_many_loose_texts(self):
        rng = seeded(31)
        for _ in range(1500):
            question = random_question(rng)
            question = (question[0], random_condition(rng, 2)) + question[2:]
            self.assertEqual(read_question(loose_text(rng, question)), question)

    def test_longest_text(self):
        text = "of sale" + " " * 1000 + "\n" + " " * 900 + "rows cost"
        self.assertEqual(read_question(text + " " * (2000 - len(text))), asked())


if __name__ == "__main__":
    unittest.main()
