"""Points 53 and 54: live answers."""

import unittest

from shedbook.index import Index
from shedbook.live import Live
from tests.asking import (SUBJECTS, plain_answer, plain_holds, plain_matches, plain_order, plain_row_key, plain_value,
                          random_lines, random_question, random_schemas)
from tests.helpers import seeded

COST = ("this", "cost")
SCHEMAS = {"sale": [("cost", "int", 5)], "refund": []}
ONE = (3, "sale", "ann", 0, (("cost", 7),))
TWO = (4, "sale", "bo", 0, ())
THREE = (4, "sale", "ann", 1, (("cost", 9),))
FOUR = (6, "refund", "ann", 0, ())
ROWS = (("of", "sale"), ("test", COST, "below", ("value", 9)), ("rows", (COST, ("this", "time"))), (1, "down"), 5)
GROUPS = (("pairs", "sale", "refund", 9), ("all",), ("groups", 2, (("this", "subject"),), (("count",), ("sum", COST))),
          (), 0)


def plain_cells(question, schemas, match):
    shape = question[2]
    if shape[0] == "rows":
        return tuple([plain_value(name, schemas, match) for name in shape[1]])
    start = (match[0][0] - match[0][0] % shape[1],) if shape[1] else ()
    sums = [0 if told[0] == "count" else plain_value(told[1], schemas, match) for told in shape[3]]
    return start + tuple([plain_value(name, schemas, match) for name in shape[2]] + sums)


def plain_parts(question, schemas, lines):
    """Return the parts of a live answer by another way than the program."""
    parts = []
    for subject in SUBJECTS:
        own = [line for line in lines if line[2] == subject]
        cells = [plain_cells(question, schemas, match) for match in plain_matches(question[0], own)
                 if plain_holds(question[1], schemas, match)]
        if cells:
            parts.append((subject, tuple(sorted(cells, key=plain_row_key))))
    return tuple(parts)


class Built(unittest.TestCase):
    def test_rows(self):
        live = Live(ROWS, SCHEMAS, [ONE, THREE, TWO, FOUR])
        self.assertEqual(live.question, ROWS)
        self.assertEqual(live.rows(), [(5, 4), (7, 3)])
        self.assertEqual(live.parts(), (("ann", ((7, 3),)), ("bo", ((5, 4),))))

    def test_groups(self):
        live = Live(GROUPS, SCHEMAS, [ONE, THREE, TWO, FOUR])
        self.assertEqual(live.rows(), [(2, "ann", 1, 7), (4, "ann", 1, 9)])
        self.assertEqual(live.parts(), (("ann", ((2, "ann", 0, 7), (4, "ann", 0, 9))),))

    def test_nothing(self):
        for lines in ([], [TWO], [FOUR]):
            live = Live(GROUPS, SCHEMAS, lines)
            self.assertEqual(live.rows(), [])
            self.assertEqual(live.parts(), ())

    def test_cells_are_sorted_like_rows(self):
        question = (("of", "sale"), ("all",), ("rows", (("this", "subject"), ("this", "word"), COST)), (), 0)
        schemas = {"sale": [("cost", "int", 5), ("word", "word", "b")]}
        lines = [(1, "sale", "ann", 0, (("cost", 10),)), (2, "sale", "ann", 0, (("cost", 9),)),
                 (3, "sale", "ann", 0, (("word", "a"),)), (4, "sale", "ann", 0, (("cost", 10),))]
        self.assertEqual(Live(question, schemas, lines).parts(),
                         (("ann", (("ann", "a", 5), ("ann", "b", 9), ("ann", "b", 10), ("ann", "b", 10))),))


class Changes(unittest.TestCase):
    def test_change(self):
        index = Index([ONE, TWO, FOUR])
        live = Live(ROWS, SCHEMAS, index.all_lines())
        index.add((5, "sale", "cy", 0, (("cost", 8),)))
        self.assertIsNone(live.change("cy", SCHEMAS, index))
        self.assertEqual(live.rows(), [(8, 5), (5, 4), (7, 3)])
        index.remove(TWO)
        live.change("bo", SCHEMAS, index)
        self.assertEqual(live.parts(), (("ann", ((7, 3),)), ("cy", ((8, 5),))))
        index.remove(ONE)
        index.add(THREE)
        live.change("ann", SCHEMAS, index)
        self.assertEqual(live.parts(), (("cy", ((8, 5),)),))
        index.add(ONE)
        live.change("ann", SCHEMAS, index)
        self.assertEqual(live.parts(), (("ann", ((7, 3),)), ("cy", ((8, 5),))))

    def test_only_the_subject_is_looked_at(self):
        index = Index([ONE, TWO])
        live = Live(ROWS, SCHEMAS, index.all_lines())
        index.remove(ONE)
        index.remove(TWO)
        live.change("bo", SCHEMAS, index)
        self.assertEqual(live.parts(), (("ann", ((7, 3),)),))
        live.change("nobody", SCHEMAS, index)
        self.assertEqual(live.parts(), (("ann", ((7, 3),)),))
        live.change("ann", SCHEMAS, index)
        self.assertEqual(live.parts(), ())
        self.assertEqual(live.rows(), [])

    def test_like_one_that_is_built_anew(self):
        rng = seeded(54)
        seen = 0
        for _ in range(250):
            question, schemas, pool = random_question(rng), random_schemas(rng), random_lines(rng, 30)
            index = Index(rng.sample(pool, len(pool) // 2))
            live = Live(question, schemas, index.all_lines())
            for _ in range(8):
                changed = {}
                for line in rng.sample(pool, min(len(pool), rng.randint(1, 6))):
                    changed[line[2]] = index.remove(line) or index.add(line)
                for subject in changed:
                    live.change(subject, schemas, index)
                lines = index.all_lines()
                self.assertEqual(lines, plain_order(lines))
                again = Live(question, schemas, lines)
                self.assertEqual(live.question, question)
                self.assertEqual(live.parts(), plain_parts(question, schemas, lines))
                self.assertEqual(again.parts(), live.parts())
                self.assertEqual(live.rows(), plain_answer(question, schemas, lines))
                self.assertEqual(again.rows(), live.rows())
                seen += len(live.parts()) > 1
        self.assertGreater(seen, 200)


class NothingIsShared(unittest.TestCase):
    def test_lists(self):
        lines, schemas = [ONE, TWO], {"sale": [("cost", "int", 5)]}
        live = Live(ROWS, schemas, lines)
        self.assertEqual((lines, schemas), ([ONE, TWO], {"sale": [("cost", "int", 5)]}))
        lines.clear()
        schemas["sale"].clear()
        schemas.clear()
        first = live.rows()
        self.assertEqual(first, [(5, 4), (7, 3)])
        first.clear()
        second = live.rows()
        self.assertEqual(second, [(5, 4), (7, 3)])
        self.assertIsNot(live.rows(), second)

    def test_index(self):
        index = Index([ONE, TWO, FOUR])
        live = Live(GROUPS, SCHEMAS, [])
        parts = index.parts()
        live.change("ann", SCHEMAS, index)
        self.assertEqual(index.parts(), parts)
        index.remove(ONE)
        self.assertEqual(live.rows(), [(2, "ann", 1, 7)])


if __name__ == "__main__":
    unittest.main()
