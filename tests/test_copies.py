"""Point 75: copies that exchange letters."""

import unittest

from shedbook.copies import Copies
from shedbook.errors import (Duplicate, InvalidLine, InvalidRule, InvalidSchema, NotFound, Refused, ShedError,
                             UnknownKind)
from shedbook.images import pack_store
from shedbook.store import Store
from tests.helpers import check_unshared, raises, seeded
from tests.keeping import BAD_COLUMNS, BAD_LINES, BAD_RULES

SCHEMAS = {"visit": [("age", "int", 0)], "sale": []}
LINE = (20, "visit", "anna", 3, (("age", 47), ("town", "lund")))
OTHER = (21, "visit", "bo", 0, ())
FORGET = ("forget", "anna", 20)
ERASE = ("erase", "visit", "age", 30)


def one_store(told):
    """Return the image of a store that is told lines and rules."""
    store = Store()
    for kind in SCHEMAS:
        store.set_schema(kind, SCHEMAS[kind])
    for item in told:
        try:
            store.tell(item) if isinstance(item[0], int) else store.add_rule(item)
        except (Refused, Duplicate):
            pass
    return pack_store(store)


def images(copies, many):
    return [copies.image(k) for k in range(many)]


class Making(unittest.TestCase):
    def test_new(self):
        for many in (1, 2, 5):
            copies = Copies(many, SCHEMAS)
            self.assertEqual(copies.sent(), [])
            self.assertEqual(images(copies, many), [one_store([])] * many)
        self.assertEqual(Copies(3, {}).image(2), [0] * 7)

    def test_invalid_schemas(self):
        for columns in BAD_COLUMNS:
            self.assertTrue(raises(InvalidSchema, Copies, 2, {"sale": [], "visit": list(columns)}))
        for kind in ("", "Visit", "a" * 13):
            self.assertTrue(raises(InvalidSchema, Copies, 1, {kind: []}))

    def test_nothing_is_shared(self):
        schemas = {"visit": [("age", "int", 0)], "sale": []}
        copies = Copies(2, schemas)
        schemas["sale"].append(("a", "int", 0))
        schemas["visit"].clear()
        schemas["more"] = []
        self.assertEqual(images(copies, 2), [one_store([])] * 2)
        copies.tell(0, LINE)
        for find in (copies.sent, lambda: copies.image(0), lambda: copies.image(1)):
            check_unshared(self, find)
        self.assertEqual(Copies(2, SCHEMAS).sent(), [])


class Case(unittest.TestCase):
    def fails(self, error, copies, name, *given):
        before = (copies.sent(), images(copies, 2))
        self.assertTrue(raises(error, getattr(copies, name), *given), (name, given))
        self.assertEqual((copies.sent(), images(copies, 2)), before)


class Telling(Case):
    def test_one_copy(self):
        copies = Copies(1, SCHEMAS)
        self.assertIsNone(copies.tell(0, LINE))
        self.assertIsNone(copies.rule(0, ERASE))
        self.assertEqual(copies.sent(), [])
        self.assertEqual(copies.image(0), one_store([LINE, ERASE]))
        self.assertTrue(raises(NotFound, copies.deliver, 0))

    def test_letters(self):
        copies = Copies(5, SCHEMAS)
        copies.tell(2, LINE)
        copies.rule(0, FORGET)
        copies.rule(4, ERASE)
        self.assertEqual(copies.sent(), [(2, k, ("line", LINE)) for k in (0, 1, 3, 4)]
                         + [(0, k, ("rule", FORGET)) for k in (1, 2, 3, 4)] + [(4, k, ("rule", ERASE)) for k in range(4)])

    def test_only_one_copy_changes(self):
        copies = Copies(2, SCHEMAS)
        copies.tell(1, LINE)
        self.assertEqual(images(copies, 2), [one_store([]), one_store([LINE])])
        copies.rule(0, ERASE)
        self.assertEqual(images(copies, 2), [one_store([ERASE]), one_store([LINE])])

    def test_a_line_that_stood_there(self):
        copies = Copies(2, SCHEMAS)
        self.assertIsNone(copies.tell(0, LINE))
        self.assertIsNone(copies.tell(0, LINE))
        copies.deliver(0)
        self.assertIsNone(copies.tell(1, LINE))
        self.assertEqual(copies.sent(), [(0, 1, ("line", LINE))] * 2 + [(1, 0, ("line", LINE))])

    def test_the_letter_has_the_line_as_it_was_told(self):
        copies = Copies(2, SCHEMAS)
        copies.rule(0, ERASE)
        copies.tell(0, LINE)
        self.assertEqual(copies.sent()[1], (0, 1, ("line", LINE)))

    def test_errors_of_lines(self):
        copies = Copies(2, SCHEMAS)
        copies.rule(0, FORGET)
        for line in BAD_LINES:
            self.fails(InvalidLine, copies, "tell", 0, line)
        self.fails(UnknownKind, copies, "tell", 0, (20, "nosuch", "anna", 0, ()))
        self.fails(Refused, copies, "tell", 0, LINE)
        self.assertIsNone(copies.tell(1, LINE))

    def test_errors_of_rules(self):
        copies = Copies(2, SCHEMAS)
        copies.rule(0, FORGET)
        for rule in BAD_RULES + (("forget", "anna", -1), ("erase", "visit", "age", 10000)):
            self.fails(InvalidRule, copies, "rule", 0, rule)
        for rule in (("keep", "visit", 3), ("must", "visit", 3), ("blur", "visit", "age", 10, 3), ("hold", "anna", 3),
                     ("sum", "visit", "age", 3)):
            self.fails(Refused, copies, "rule", 0, rule)
        self.fails(Duplicate, copies, "rule", 0, FORGET)
        self.assertIsNone(copies.rule(1, FORGET))


class Delivering(Case):
    def test_not_found(self):
        copies = Copies(2, SCHEMAS)
        for index in (0, 1, -1):
            self.fails(NotFound, copies, "deliver", index)
        copies.tell(0, LINE)
        copies.tell(0, OTHER)
        for index in (2, 3, -1, -2, 1000):
            self.fails(NotFound, copies, "deliver", index)

    def test_twice(self):
        copies = Copies(2, SCHEMAS)
        copies.tell(0, LINE)
        copies.rule(0, ERASE)
        self.assertIs(copies.deliver(0), True)
        self.assertIs(copies.deliver(0), False)
        self.assertIs(copies.deliver(1), True)
        self.assertIs(copies.deliver(1), False)
        self.assertIs(copies.deliver(0), False)
        self.assertEqual(images(copies, 2), [one_store([LINE, ERASE])] * 2)
        self.assertEqual(len(copies.sent()), 2)

    def test_to_its_receiver_alone(self):
        copies = Copies(3, SCHEMAS)
        copies.tell(1, LINE)
        self.assertIs(copies.deliver(1), True)
        self.assertEqual(images(copies, 3), [one_store([]), one_store([LINE]), one_store([LINE])])

    def test_a_line_that_the_receiver_refuses(self):
        copies = Copies(2, SCHEMAS)
        copies.tell(0, LINE)
        copies.rule(1, FORGET)
        before = copies.image(1)
        self.assertIs(copies.deliver(0), False)
        self.assertEqual(copies.image(1), before)
        self.assertEqual(len(copies.sent()), 2)
        self.assertIs(copies.deliver(1), True)
        self.assertEqual(copies.image(0), before)

    def test_a_rule_that_the_receiver_has(self):
        copies = Copies(2, SCHEMAS)
        copies.rule(0, FORGET)
        copies.rule(1, FORGET)
        for index in (0, 1, 0, 1):
            self.assertIs(copies.deliver(index), False)
        self.assertEqual(images(copies, 2), [one_store([FORGET])] * 2)

    def test_a_line_that_becomes_one_that_stands(self):
        copies = Copies(2, SCHEMAS)
        copies.rule(1, ERASE)
        copies.tell(1, LINE[:4] + ((("town", "lund"),),))
        copies.tell(0, LINE)
        self.assertIs(copies.deliver(2), False)
        self.assertIs(copies.deliver(1), True)
        self.assertIs(copies.deliver(0), True)
        self.assertEqual(images(copies, 2), [one_store([ERASE, LINE])] * 2)

    def test_orders(self):
        """However the letters arrive, at the end all copies are like one store that was told everything."""
        rng = seeded(75)
        for _ in range(150):
            many = rng.choice((1, 2, 3, 5))
            copies, told, delivered = Copies(many, SCHEMAS), [], {}
            for _ in range(rng.randint(1, 25)):
                sent, k = len(copies.sent()), rng.randrange(many)
                if sent > 0 and rng.random() < 0.4:
                    self.deliver(copies, rng.randrange(sent), delivered)
                    continue
                try:
                    if rng.random() < 0.6:
                        item = random_line(rng)
                        copies.tell(k, item)
                    else:
                        item = random_rule(rng)
                        copies.rule(k, item)
                except ShedError:
                    self.assertEqual(len(copies.sent()), sent)
                    continue
                told.append(item)
                word = "line" if isinstance(item[0], int) else "rule"
                self.assertEqual(copies.sent()[sent:], [(k, to, (word, item)) for to in range(many) if to != k])
            late = list(range(len(copies.sent())))
            rng.shuffle(late)
            for index in late + late[:5]:
                self.deliver(copies, index, delivered)
            self.assertEqual(sorted(delivered), list(range(len(copies.sent()))))
            rng.shuffle(told)
            self.assertEqual(images(copies, many), [one_store(told)] * many)

    def deliver(self, copies, index, delivered):
        receiver, sent = copies.sent()[index][1], copies.sent()
        before = copies.image(receiver)
        changed = copies.deliver(index)
        self.assertIs(changed, copies.image(receiver) != before)
        self.assertEqual(copies.sent(), sent)
        delivered[index] = True


def random_line(rng):
    fields = tuple([(name, rng.randint(0, 2)) for name in ("age", "town") if rng.random() < 0.6])
    return (rng.randint(0, 4), rng.choice(("visit", "visit", "nosuch")), rng.choice(("anna", "bo")), 0, fields)


def random_rule(rng):
    return rng.choice([("forget", rng.choice(("anna", "bo")), rng.randint(-1, 3)),
                       ("erase", "visit", rng.choice(("age", "town")), rng.randint(0, 4)), ("keep", "visit", 4)])


if __name__ == "__main__":
    unittest.main()
