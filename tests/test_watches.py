"""Points 55 to 58: standing questions."""

import itertools
import unittest

from shedbook.errors import Duplicate, NotFound
from shedbook.index import Index
from shedbook.questions import write_question
from shedbook.watches import Watches, difference, from_parts
from tests.asking import (plain_answer, plain_row_key, random_lines, random_question, random_schemas)
from tests.helpers import check_unshared, raises, seeded

COST = ("this", "cost")
SCHEMAS = {"sale": [("cost", "int", 5)]}
ONE = (3, "sale", "ann", 0, (("cost", 7),))
TWO = (4, "sale", "bo", 0, ())
SALES = (("of", "sale"), ("all",), ("rows", (COST,)), (0, "down"), 0)
VISITS = (("of", "visit"), ("all",), ("rows", (("this", "time"), COST)), (), 0)
COUNTS = (("of", "sale"), ("all",), ("groups", 0, (), (("count",),)), (), 0)


class Difference(unittest.TestCase):
    def check(self, old, new, came, went):
        for one in itertools.islice(itertools.permutations(old), 30):
            for other in itertools.islice(itertools.permutations(new), 30):
                self.assertEqual(difference(list(one), list(other)), (came, went))
                self.assertEqual(difference(list(other), list(one)), (went, came))

    def test_empty(self):
        self.check([], [], [], [])
        self.check([], [(1, 2)], [(1, 2)], [])
        self.check([(1, 2)], [(1, 2)], [], [])

    def test_counts(self):
        a, b, c = (1, "a"), (1, "b"), ("a", 0)
        self.check([a, a, a], [a], [], [a, a])
        self.check([a, b, a], [b, b, c], [b, c], [a, a])
        self.check([a, b, c], [c, b, a], [], [])
        self.check([a, a, b, b], [a, b, b, b], [b], [a])
        self.check([], [a, a, a], [a, a, a], [])

    def test_order(self):
        rows = [(-1, 10 ** 8), (9, "a"), (10, "a"), (10, "b"), ("a", 0), ("ab", 0), ("b", -5)]
        self.check([], rows, rows, [])
        self.check(rows[:3], rows[2:], rows[3:], rows[:2])

    def test_kinds_of_values(self):
        found = difference([(1,)], [(2,)])
        self.assertEqual([part.__class__ for part in (found,) + found], [tuple, list, list])

    def test_nothing_is_shared(self):
        old, new = [(2,), (1,), (1,)], [(1,), (3,)]
        came, went = difference(old, new)
        self.assertEqual((old, new), ([(2,), (1,), (1,)], [(1,), (3,)]))
        came.clear()
        went.clear()
        self.assertEqual(difference(old, new), ([(3,)], [(1,), (2,)]))
        old = []
        came, went = difference(old, old)
        self.assertEqual(len({id(came), id(went), id(old)}), 3)

    def test_many(self):
        """What is left and what came make what is there now."""
        rng = seeded(57)
        for _ in range(300):
            old, new = [[(rng.randint(0, 3), rng.choice("ab")) for _ in range(rng.randint(0, 8))] for _ in range(2)]
            came, went = difference(old, new)
            self.assertEqual(sorted(old + came), sorted(new + went))
            self.assertEqual([row for row in came if row in went], [])
            self.assertEqual((came, went), (sorted(came), sorted(went)))


class Names(unittest.TestCase):
    def setUp(self):
        self.watches = Watches()
        self.watches.add("sales", SALES, [(7,), (5,)])
        self.watches.add("visits", VISITS, [])

    def check(self):
        self.assertEqual(self.watches.names(), ["sales", "visits"])
        self.assertEqual(self.watches.parts(), (("sales", write_question(SALES), ((7,), (5,))),
                                                ("visits", write_question(VISITS), ())))

    def test_empty(self):
        watches = Watches()
        self.assertEqual(watches.names(), [])
        self.assertEqual(watches.parts(), ())
        self.assertEqual(watches.refresh(SCHEMAS, Index([ONE])), [])
        for call in (watches.question, watches.rows, watches.drop):
            self.assertTrue(raises(NotFound, call, "sales"))

    def test_add(self):
        self.check()
        self.assertEqual(self.watches.question("sales"), SALES)
        self.assertEqual(self.watches.rows("sales"), [(7,), (5,)])
        self.assertEqual(self.watches.rows("visits"), [])
        self.assertIsNone(self.watches.add("b", SALES, [(1,)]))
        self.assertEqual(self.watches.names(), ["b", "sales", "visits"])

    def test_duplicate(self):
        for question, rows in ((VISITS, [(1, 2)]), (SALES, [])):
            self.assertTrue(raises(Duplicate, self.watches.add, "sales", question, rows))
            self.check()

    def test_drop(self):
        self.assertIsNone(self.watches.drop("sales"))
        self.assertEqual(self.watches.names(), ["visits"])
        for call in (self.watches.question, self.watches.rows, self.watches.drop):
            self.assertTrue(raises(NotFound, call, "sales"))
        self.assertEqual(self.watches.parts(), (("visits", write_question(VISITS), ()),))
        self.watches.add("sales", COUNTS, [(1,)])
        self.assertEqual(self.watches.question("sales"), COUNTS)
        self.assertEqual(self.watches.rows("sales"), [(1,)])

    def test_not_found(self):
        for call in (self.watches.question, self.watches.rows, self.watches.drop):
            for name in ("a", "sale", "saless", "z"):
                self.assertTrue(raises(NotFound, call, name))
                self.check()

    def test_from_parts(self):
        again = from_parts(self.watches.parts())
        self.assertIs(again.__class__, Watches)
        self.assertEqual(again.parts(), self.watches.parts())
        self.assertEqual([again.question("sales"), again.question("visits")], [SALES, VISITS])
        self.assertEqual(again.rows("sales"), [(7,), (5,)])
        again.drop("sales")
        self.check()
        self.assertEqual(from_parts(()).parts(), ())

    def test_nothing_is_shared(self):
        rows = [(1,)]
        self.watches.add("b", SALES, rows)
        rows.clear()
        self.assertEqual(self.watches.rows("b"), [(1,)])
        for find in (self.watches.names, lambda: self.watches.rows("b")):
            check_unshared(self, find)
        self.assertEqual(Watches().names(), [])


class Refresh(unittest.TestCase):
    def test_what_came_and_went(self):
        index = Index([ONE])
        watches = Watches()
        for name, question, rows in [("sales", SALES, [(7,)]), ("counts", COUNTS, [(1,)]), ("visits", VISITS, [(1, 2)]),
                                     ("again", SALES, [])]:
            watches.add(name, question, rows)
        self.assertEqual(watches.refresh(SCHEMAS, index), [("again", [(7,)], []), ("visits", [], [(1, 2)])])
        self.assertEqual(watches.refresh(SCHEMAS, index), [])
        index.add(TWO)
        self.assertEqual(watches.refresh(SCHEMAS, index), [
            ("again", [(5,)], []), ("counts", [(2,)], [(1,)]), ("sales", [(5,)], [])])
        self.assertEqual(watches.rows("sales"), [(7,), (5,)])
        self.assertEqual(watches.refresh(SCHEMAS, index), [])
        index.remove(ONE)
        watches.drop("again")
        self.assertEqual(watches.refresh({}, index), [("counts", [(1,)], [(2,)]), ("sales", [(0,)], [(5,), (7,)])])

    def test_rows_that_occur_several_times(self):
        index = Index([(k, "sale", "ann", 0, ()) for k in range(3)])
        watches = Watches()
        watches.add("sales", SALES, [(5,)])
        self.assertEqual(watches.refresh(SCHEMAS, index), [("sales", [(5,), (5,)], [])])
        index.remove((0, "sale", "ann", 0, ()))
        self.assertEqual(watches.refresh(SCHEMAS, index), [("sales", [], [(5,)])])
        self.assertEqual(watches.rows("sales"), [(5,), (5,)])

    def test_latest_rows_in_another_order(self):
        watches = Watches()
        watches.add("sales", SALES, [(5,), (7,)])
        self.assertEqual(watches.refresh(SCHEMAS, Index([ONE, TWO])), [])
        self.assertEqual(watches.rows("sales"), [(7,), (5,)])

    def test_nothing_is_shared(self):
        index = Index([ONE])
        watches = Watches()
        watches.add("sales", SALES, [(1,)])
        schemas = {"sale": [("cost", "int", 5)]}
        told = watches.refresh(schemas, index)
        self.assertEqual(schemas, SCHEMAS)
        self.assertEqual(index.all_lines(), [ONE])
        told[0][1].clear()
        told[0][2].clear()
        told.clear()
        self.assertEqual(watches.rows("sales"), [(7,)])
        self.assertEqual(watches.refresh(SCHEMAS, index), [])

    def test_several_refreshings_tell_what_one_at_the_end_tells(self):
        rng = seeded(56)
        seen = 0
        for _ in range(80):
            pool, schemas = random_lines(rng, 30), random_schemas(rng)
            index = Index(rng.sample(pool, len(pool) // 2))
            often, once = Watches(), Watches()
            for name in rng.sample(["a", "b", "c", "d"], 3):
                question = random_question(rng)
                rows = plain_answer(question, schemas, index.all_lines())
                often.add(name, question, rows)
                once.add(name, question, rows)
            balance = {}
            for _ in range(5):
                for line in rng.sample(pool, min(len(pool), 5)):
                    if not index.remove(line):
                        index.add(line)
                told = often.refresh(schemas, index)
                self.assertEqual([name for name, _, _ in told], sorted([name for name, _, _ in told]))
                self.assertEqual(often.refresh(schemas, index), [])
                for name, came, went in told:
                    seen += 1
                    self.assertTrue(came or went)
                    for row in came:
                        balance[(name, row)] = balance.get((name, row), 0) + 1
                    for row in went:
                        balance[(name, row)] = balance.get((name, row), 0) - 1
                for name in often.names():
                    self.assertEqual(often.rows(name), plain_answer(often.question(name), schemas, index.all_lines()))
            for name, came, went in once.refresh(schemas, index):
                for row in came:
                    balance[(name, row)] -= 1
                for row in went:
                    balance[(name, row)] += 1
                self.assertEqual((came, went), (sorted(came, key=plain_row_key), sorted(went, key=plain_row_key)))
            self.assertEqual([many for many in balance.values() if many != 0], [])
            self.assertEqual(once.parts(), often.parts())
            self.assertEqual(from_parts(often.parts()).parts(), often.parts())
        self.assertGreater(seen, 200)


if __name__ == "__main__":
    unittest.main()
