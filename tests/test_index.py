"""Point 46: an index, its finders and its parts."""

import unittest

from shedbook.index import Index
from tests.asking import KINDS, SUBJECTS, plain_order, random_lines
from tests.helpers import check_unshared, seeded

NAMES = ("cost", "town", "other", "subject")
VALUES = (-2, -1, 0, 1, 2, 7, "a", "b", "ann")
ONE = (5, "sale", "ann", 3, (("cost", 7), ("town", "york")))
TWO = (5, "sale", "ann", 3, (("cost", 7), ("town", "yorkshire")))
THREE = (9, "sale", "bo", 0, (("cost", "x"),))
FOUR = (9, "visit", "ann", 0, ())


def plain_parts(lines):
    """Return the parts of an index of the lines by another way than the program."""
    found = {}
    for line in plain_order(lines):
        _, kind, subject, _, fields = line
        keys = [(kind,), (kind, "subject", subject)]
        for name, value in fields:
            keys.append((kind, "value", name, "int" if isinstance(value, int) else "word", str(value)))
        for key in keys:
            found[key] = found.get(key, ()) + (line,)
    return tuple([(key, found[key]) for key in sorted(found)])


class IndexCase(unittest.TestCase):
    def check(self, index, lines):
        """Check all that an index tells against an ascending list of its lines."""
        self.assertEqual(index.all_lines(), lines)
        self.assertEqual(index.subjects(), sorted({line[2] for line in lines}))
        self.assertEqual(index.parts(), plain_parts(lines))
        for kind in KINDS + ("none",):
            own = [line for line in lines if line[1] == kind]
            self.assertEqual(index.of_kind(kind), own)
            for subject in SUBJECTS + ("none",):
                self.assertEqual(index.of_subject(kind, subject), [line for line in own if line[2] == subject])
            for low, high in [(0, 9999), (3, 3), (3, 5), (0, 0), (12, 12), (13, 9999), (5, 3), (1, 0), (9999, 0)]:
                self.assertEqual(index.of_times(kind, low, high), [line for line in own if low <= line[0] <= high])
            for name in NAMES:
                found = [value for line in own for field, value in line[4] if field == name]
                numbers = sorted({value for value in found if isinstance(value, int)})
                words = sorted({value for value in found if isinstance(value, str)})
                self.assertEqual(index.values_of(kind, name), numbers + words)
                for value in VALUES:
                    self.assertEqual(index.of_value(kind, name, value), [line for line in own if (name, value) in line[4]])


class Finders(IndexCase):
    def test_empty(self):
        self.check(Index([]), [])
        self.assertEqual(Index([]).parts(), ())
        self.assertIs(Index([]).has(ONE), False)

    def test_few(self):
        index = Index([FOUR, TWO, ONE, THREE, ONE])
        self.check(index, [ONE, TWO, THREE, FOUR])
        self.assertEqual(index.parts(), (
            (("sale",), (ONE, TWO, THREE)),
            (("sale", "subject", "ann"), (ONE, TWO)),
            (("sale", "subject", "bo"), (THREE,)),
            (("sale", "value", "cost", "int", "7"), (ONE, TWO)),
            (("sale", "value", "cost", "word", "x"), (THREE,)),
            (("sale", "value", "town", "word", "york"), (ONE,)),
            (("sale", "value", "town", "word", "yorkshire"), (TWO,)),
            (("visit",), (FOUR,)),
            (("visit", "subject", "ann"), (FOUR,))))
        self.assertEqual(index.values_of("sale", "cost"), [7, "x"])
        self.assertEqual(index.of_value("sale", "cost", 7), [ONE, TWO])
        self.assertEqual(index.of_value("sale", "cost", "x"), [THREE])
        self.assertEqual(index.of_value("sale", "town", 7), [])
        self.assertEqual(index.subjects(), ["ann", "bo"])

    def test_kinds_of_values(self):
        index = Index([ONE, THREE])
        for found in (index.all_lines(), index.of_kind("sale"), index.of_subject("sale", "bo"), index.subjects(),
                      index.of_times("sale", 0, 9), index.of_value("sale", "cost", 7), index.values_of("sale", "cost"),
                      index.of_kind("x"), index.of_times("x", 0, 9)):
            self.assertIs(found.__class__, list)
        for key, lines in index.parts():
            self.assertEqual([key.__class__, lines.__class__], [tuple, tuple])

    def test_order_of_keys(self):
        """Keys are compared as tuples of strings: numbers as they are written, a beginning first."""
        lines = [(0, "k", "s", 0, (("n", value),)) for value in (-10, -9, 0, 1, 10, 9, "a")] + [(0, "ka", "s", 0, ())]
        keys = [key for key, _ in Index(lines).parts()]
        self.assertEqual(keys, [
            ("k",), ("k", "subject", "s"), ("k", "value", "n", "int", "-10"), ("k", "value", "n", "int", "-9"),
            ("k", "value", "n", "int", "0"), ("k", "value", "n", "int", "1"), ("k", "value", "n", "int", "10"),
            ("k", "value", "n", "int", "9"), ("k", "value", "n", "word", "a"), ("ka",), ("ka", "subject", "s")])

    def test_subject_and_value_as_words(self):
        lines = [(0, "subject", "value", 0, (("subject", "value"), ("value", "subject"))),
                 (0, "value", "subject", 0, (("value", 0),))]
        index = Index(lines)
        self.assertEqual(index.parts(), plain_parts(lines))
        self.assertEqual(index.of_subject("subject", "value"), lines[:1])
        self.assertEqual(index.of_value("value", "value", 0), lines[1:])

    def test_bounds_of_times(self):
        lines = [(time, "sale", "ann", 0, ()) for time in (0, 1, 9998, 9999)]
        index = Index(lines)
        for low, high, found in [(0, 9999, lines), (0, 0, lines[:1]), (9999, 9999, lines[3:]), (1, 9998, lines[1:3]),
                                 (-5, 20000, lines), (2, 9997, []), (9999, 9998, []), (9999, 0, []), (1, 0, [])]:
            self.assertEqual(index.of_times("sale", low, high), found)


class Changes(IndexCase):
    def test_add(self):
        index = Index([])
        self.assertIs(index.add(ONE), True)
        self.assertIs(index.add(ONE), False)
        self.assertIs(index.add(TWO), True)
        self.assertIs(index.add(ONE), False)
        self.check(index, [ONE, TWO])
        self.assertIs(Index([ONE]).add(ONE), False)

    def test_remove(self):
        index = Index([ONE, TWO, THREE])
        self.assertIs(index.remove(FOUR), False)
        self.check(index, [ONE, TWO, THREE])
        self.assertIs(index.remove(ONE), True)
        self.assertIs(index.remove(ONE), False)
        self.check(index, [TWO, THREE])
        self.assertIs(index.remove(THREE), True)
        self.assertIs(index.remove(TWO), True)
        self.assertIs(index.remove(TWO), False)
        self.check(index, [])
        self.assertEqual(index.parts(), ())
        self.assertIs(index.add(ONE), True)
        self.check(index, [ONE])

    def test_has(self):
        index = Index([ONE, THREE])
        for line, has in [(ONE, True), (TWO, False), (THREE, True), (FOUR, False), ((0, "a", "a", 0, ()), False),
                          ((9999, "z", "z", 0, ()), False)]:
            self.assertIs(index.has(line), has)
        index.remove(ONE)
        self.assertIs(index.has(ONE), False)
        index.add(TWO)
        self.assertIs(index.has(TWO), True)

    def test_lines_that_differ_in_the_sort_of_a_value(self):
        lines = [(0, "k", "s", 0, (("n", value),)) for value in (5, "a")]
        index = Index(lines)
        self.assertIs(index.remove(lines[0]), True)
        self.check(index, lines[1:])
        self.assertEqual(index.of_value("k", "n", "a"), lines[1:])

    def test_many_changes(self):
        """After any changes an index is like one that is built anew from the lines that are left."""
        rng = seeded(46)
        for _ in range(25):
            start = random_lines(rng)
            pool = start + random_lines(rng, 20)
            mixed = rng.sample(start, len(start))
            index = Index(mixed)
            held = {line: True for line in start}
            for _ in range(rng.randint(1, 40)):
                if not pool:
                    continue
                line = rng.choice(pool)
                self.assertIs(index.has(line), line in held)
                if rng.random() < 0.5:
                    self.assertIs(index.add(line), line not in held)
                    held[line] = True
                else:
                    self.assertIs(index.remove(line), line in held)
                    held.pop(line, None)
            left = plain_order(held)
            self.check(index, left)
            self.check(Index(left), left)


class NothingIsShared(IndexCase):
    def test_list_of_the_start(self):
        given = [THREE, ONE]
        index = Index(given)
        self.assertEqual(given, [THREE, ONE])
        given.append(TWO)
        given.remove(ONE)
        self.check(index, [ONE, THREE])

    def test_returned_lists(self):
        index = Index([ONE, THREE, FOUR])
        finders = [index.all_lines, lambda: index.of_kind("sale"), lambda: index.of_subject("sale", "ann"),
                   lambda: index.of_times("sale", 0, 9999), lambda: index.of_value("sale", "cost", 7),
                   lambda: index.values_of("sale", "cost"), index.subjects, lambda: index.of_kind("none"),
                   lambda: index.of_times("none", 0, 1), lambda: index.of_value("sale", "cost", 8)]
        for find in finders:
            check_unshared(self, find)
        self.check(index, [ONE, THREE, FOUR])

    def test_two_indexes(self):
        one, other = Index([ONE]), Index([ONE])
        one.remove(ONE)
        one.add(TWO)
        self.check(other, [ONE])


if __name__ == "__main__":
    unittest.main()
