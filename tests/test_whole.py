"""What the document promises over the whole program."""

import unittest

from shedbook.copies import Copies
from shedbook.desk import Desk
from shedbook.errors import NotFound, Refused, ShedError
from shedbook.images import pack_store, unpack_store
from shedbook.store import Store
from shedbook.walks import accepts_record, make_record, names_in_backup, names_line, names_sum
from tests.asking import KINDS, plain_answer, plain_order, plain_text, random_question
from tests.fates import expected_fate
from tests.helpers import raises, seeded
from tests.keeping import SUBJECTS, PlainStore, outcome, random_call, random_told, state
from tests.stores import LINE, OTHER, SALE, aged, new_store


def random_store(rng, many):
    """Return a store and a plain one after random calls."""
    store, plain = Store(), PlainStore()
    calls = [("set_schema", (kind, [("cost", "int", 1)])) for kind in KINDS]
    for kind in KINDS:
        calls += [("add_rule", (("keep", kind, rng.randint(3, 9)),)), ("add_rule", (("sum", kind, "cost", 4),))]
    for name, given in calls:
        getattr(store, name)(*given)
        getattr(plain, name)(*given)
    for _ in range(many):
        name, given, plainly = random_call(rng, plain)
        outcome(getattr(store, name), *given)
        outcome(getattr(plain, name), *plainly)
    return store, plain


def unguarded(store, subject):
    """Drop the "hold" rules of a subject, and go on until no "must" rule protects what stands."""
    for rule in store.rules():
        if rule[:2] == ("hold", subject):
            store.drop_rule(rule)
    ages = [rule[2] for rule in store.rules() if rule[0] == "must"]
    store.advance(store.now() + max(ages + [0]) + 20)


class Forgetting(unittest.TestCase):
    """Points 11, 60, 61, 65 and 72 to 74 together."""

    def check_forgotten(self, store, rule):
        """Check that nothing in a store is named by a "forget" rule, and that nothing comes back."""
        for line in store.lines():
            self.assertFalse(names_line(rule, store.now(), line))
            self.assertFalse(line[2] == rule[1] and line[0] <= rule[2])
        for row in store.kept():
            self.assertFalse(names_sum(rule, row))
            self.assertFalse(row[4] == rule[1] and row[2] * row[3] <= rule[2])
        for name in store.backups():
            for line in store.backup_lines(name):
                self.assertFalse(names_in_backup(rule, line))
                self.assertFalse(line[2] == rule[1] and line[0] <= rule[2])
        record = make_record(store, rule)
        self.assertEqual(record[3], [])
        self.assertIs(accepts_record(pack_store(store), record), True)

    def test_a_forgotten_subject(self):
        rng = seeded(73)
        gone = 0
        for _ in range(60):
            store, plain = random_store(rng, 60)
            store.backup("z")
            subject = rng.choice(SUBJECTS)
            rule = ("forget", subject, store.now() + rng.randint(-2, 4))
            outcome(store.add_rule, rule)
            if rule not in store.rules():
                continue
            before = len([line for line in store.backup_lines("z") if line[2] == subject])
            unguarded(store, subject)
            self.check_forgotten(store, rule)
            gone += before - len([line for line in store.backup_lines("z") if line[2] == subject])
            for _ in range(10):
                line = random_told(rng, plain)
                line = (rng.randint(0, rule[2]), line[1], subject) + line[3:]
                self.assertTrue(raises(Refused, store.tell, line))
            for name in store.backups():
                store.restore(name)
                self.check_forgotten(store, rule)
            again = unpack_store(pack_store(store))
            self.check_forgotten(again, rule)
        self.assertGreater(gone, 10)

    def test_while_something_protects_it(self):
        rule, row = ("forget", "anna", 50), ("visit", "age", 10, 2, "anna", 1, 47, 47, 47)
        store = new_store([("keep", "visit", 10), ("sum", "visit", "age", 10)], [LINE, OTHER, SALE])
        store.backup("b")
        store.advance(30)
        self.assertEqual(store.kept(), [row])
        store.add_rule(("must", "sale", 60))
        store.add_rule(("hold", "anna", 70))
        store.tell(aged(5))
        store.add_rule(rule)
        rest = [(("segment", 0), SALE), (("segment", 0), aged(5)), (("sums",), row), (("backup", "b"), SALE),
                (("backup", "b"), LINE)]
        self.assertEqual(make_record(store, rule)[3], rest)
        store.advance(70)
        self.assertEqual(make_record(store, rule)[3], [rest[0], rest[3]])
        store.advance(79)
        self.assertEqual(make_record(store, rule)[3], [rest[0], rest[3]])
        store.advance(80)
        self.check_forgotten(store, rule)
        self.assertEqual(store.lines(), [])
        self.assertEqual(store.backup_lines("b"), [OTHER])
        self.assertTrue(raises(Refused, store.tell, SALE))
        self.assertEqual(store.restore("b"), 0)
        self.check_forgotten(store, rule)


class WholeProgram(unittest.TestCase):
    def test_answers_are_those_for_the_plain_list_of_standing_lines(self):
        """Point 1: what was told counts as the rules leave it at the present moment, whatever was asked before."""
        rng = seeded(1)
        rows = 0
        for _ in range(40):
            store, told, moment = Store(), [], 0
            rules = [("keep", "sale", rng.randint(3, 9)), ("blur", "visit", "cost", 2, rng.randint(0, 4)),
                     ("must", "refund", 3), ("forget", rng.choice(SUBJECTS), rng.randint(0, 6)),
                     ("hold", rng.choice(SUBJECTS), rng.randint(1, 9)), ("erase", "sale", "town", rng.randint(0, 6))]
            schemas = {kind: [("cost", "int", 1), ("town", "word", "a")] for kind in KINDS}
            for kind in KINDS:
                store.set_schema(kind, schemas[kind])
            for rule in rules:
                store.add_rule(rule)
            for _ in range(25):
                plain = PlainStore()
                plain.moment = moment
                line = random_told(rng, plain)
                if outcome(store.tell, line)[0] == "returned":
                    told.append(line)
                if rng.random() < 0.4:
                    moment += 1
                    store.advance(moment)
                left = [expected_fate(rules, moment, line)[0] for line in told]
                standing = plain_order([line for line in left if line is not None])
                self.assertEqual(store.lines(), standing)
                question = random_question(rng)
                found = store.ask(plain_text(question))
                self.assertEqual(found, plain_answer(question, schemas, standing))
                rows += len(found)
        self.assertGreater(rows, 300)

    def test_the_same_calls_give_the_same_image(self):
        for seed in range(5):
            images = []
            for _ in range(2):
                rng = seeded(seed)
                store, _ = random_store(rng, 80)
                images.append((pack_store(store), state(store)))
            self.assertEqual(images[0], images[1])

    def test_errors_have_one_base_class(self):
        desk, copies = Desk(), Copies(2, {"sale": []})
        for call, given in ((desk.ask, ("a", "")), (desk.ask, ("a", "of sale\nrows cost")), (desk.revoke, ("a", "b")),
                            (desk.grant, ("a", "b", "c")), (copies.deliver, (0,)), (copies.tell, (0, LINE)),
                            (copies.rule, (0, ("keep", "sale", 1))), (desk.vault().store().unwatch, ("a",)),
                            (make_record, (Store(), ("keep", "sale", 1))), (unpack_store, ([],))):
            self.assertRaises(ShedError, call, *given)
            self.assertRaises(ValueError, call, *given)

    def test_a_call_that_raises_changes_no_copy_and_no_desk(self):
        desk = Desk()
        desk.vault().store().set_schema("sale", [])
        desk.grant("a", "sale", "sums")
        desk.vault().save()
        before = (desk.grants(), state(desk.vault().store()), desk.vault().disk().area(0))
        for call, given in ((desk.grant, ("a", "sale", "none")), (desk.revoke, ("b", "sale")), (desk.may_ask, ("a", "")),
                            (desk.ask, ("a", "of sale\nrows cost")), (desk.ask, ("b", "of sale\ngroups : count")),
                            (desk.ask, ("a", "of sale"))):
            self.assertRaises(ShedError, call, *given)
            self.assertEqual((desk.grants(), state(desk.vault().store()), desk.vault().disk().area(0)), before)
        self.assertEqual(len(desk.ledger()), 2)

    def test_a_walk_over_a_store_changes_nothing(self):
        store, _ = random_store(seeded(72), 60)
        before, image = state(store), pack_store(store)
        for rule in store.rules():
            record = make_record(store, rule)
            accepts_record(image, record)
        self.assertTrue(raises(NotFound, make_record, store, ("forget", "nobody", 1)))
        self.assertEqual((state(store), pack_store(store)), (before, image))


if __name__ == "__main__":
    unittest.main()
