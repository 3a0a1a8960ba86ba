"""Point 65: backups."""

import unittest

from shedbook.errors import Duplicate, NotFound, Refused
from shedbook.images import pack_store
from shedbook.store import Store
from tests.helpers import raises
from tests.stores import LINE, OTHER, SALE, Case, aged, new_store


def bare(line):
    return line[:4] + ((),)


class Making(Case):
    def test_backup(self):
        store = new_store([], [SALE, OTHER, LINE], 30)
        self.assertEqual(store.backup("b"), 3)
        self.assertEqual(store.backup_lines("b"), [SALE, LINE, OTHER])
        self.assertEqual(store.lines(), [SALE, LINE, OTHER])

    def test_of_an_empty_store(self):
        store = new_store()
        self.assertEqual(store.backup("b"), 0)
        self.assertEqual((store.backups(), store.backup_lines("b")), (["b"], []))
        self.assertEqual(store.restore("b"), 0)

    def test_names(self):
        store = new_store([], [LINE])
        for name in ("d", "abc", "c", "ab"):
            store.backup(name)
        self.assertEqual(store.backups(), ["ab", "abc", "c", "d"])

    def test_duplicate(self):
        store = new_store([], [LINE])
        store.backup("b")
        store.tell(OTHER)
        self.fails(Duplicate, store, "backup", "b")
        self.assertEqual(store.backup_lines("b"), [LINE])
        self.assertEqual(store.backup("c"), 2)

    def test_not_found(self):
        for store in (Store(), new_store([], [LINE])):
            store.backup("b")
            for name in ("a", "bb"):
                self.fails(NotFound, store, "restore", name)
                self.fails(NotFound, store, "drop_backup", name)
                self.fails(NotFound, store, "backup_lines", name)

    def test_drop(self):
        store = new_store([], [LINE])
        store.backup("b")
        store.backup("c")
        self.assertIsNone(store.drop_backup("b"))
        self.assertEqual(store.backups(), ["c"])
        self.fails(NotFound, store, "drop_backup", "b")
        store.tell(OTHER)
        self.assertEqual(store.backup("b"), 2)

    def test_it_stays_as_it_was(self):
        store = new_store([], [LINE])
        store.backup("b")
        store.tell(OTHER)
        store.set_schema("visit", [])
        self.assertEqual(store.backup_lines("b"), [LINE])


class Restoring(Case):
    def test_how_many_came(self):
        store = new_store([], [LINE, OTHER, SALE])
        store.backup("b")
        self.assertEqual(store.restore("b"), 0)
        store.add_rule(("keep", "visit", 0))
        store.advance(30)
        store.drop_rule(("keep", "visit", 0))
        self.assertEqual(store.lines(), [SALE])
        self.assertEqual(store.restore("b"), 2)
        self.assertEqual(store.lines(), [SALE, LINE, OTHER])
        self.assertEqual(store.restore("b"), 0)
        self.assertEqual(store.backup_lines("b"), [SALE, LINE, OTHER])

    def test_lines_of_which_nothing_is_left(self):
        store = new_store([], [LINE, OTHER, SALE])
        store.backup("b")
        store.add_rule(("keep", "visit", 10))
        store.advance(30)
        self.assertEqual(store.lines(), [SALE, OTHER])
        self.assertEqual(store.restore("b"), 0)
        self.assertEqual(store.lines(), [SALE, OTHER])
        self.assertEqual(store.backup_lines("b"), [SALE, LINE, OTHER])

    def test_nothing_expires_again(self):
        store = new_store([], [LINE, SALE])
        store.backup("b")
        for rule in (("keep", "visit", 10), ("sum", "visit", "age", 10)):
            store.add_rule(rule)
        store.advance(30)
        kept = store.kept()
        self.assertEqual(len(kept), 1)
        self.assertEqual(store.restore("b"), 0)
        self.assertEqual(store.kept(), kept)

    def test_lines_that_come_as_one(self):
        store = new_store([], [aged(47), aged(42), aged(39)])
        store.backup("b")
        store.add_rule(("blur", "visit", "age", 10, 5))
        store.add_rule(("keep", "visit", 9))
        store.advance(50)
        self.assertEqual(store.lines(), [])
        store.drop_rule(("keep", "visit", 9))
        self.assertEqual(store.restore("b"), 2)
        self.assertEqual(store.lines(), [aged(30), aged(40)])
        self.assertEqual(store.backup_lines("b"), [aged(39), aged(42), aged(47)])

    def test_a_line_stands_beside_its_coarser_form(self):
        store = new_store([], [aged(47)])
        store.backup("b")
        store.add_rule(("blur", "visit", "age", 10, 5))
        store.advance(50)
        store.add_rule(("hold", "anna", 60))
        self.assertEqual(store.restore("b"), 1)
        self.assertEqual(store.lines(), [aged(40), aged(47)])
        store.advance(60)
        self.assertEqual(store.lines(), [aged(40)])


class Rules(Case):
    def backed(self, rules, lines, now=0, guards=()):
        """Return a store whose lines were backed up before the rules came."""
        store = new_store([], lines, now)
        store.backup("b")
        for rule in list(guards) + list(rules):
            store.add_rule(rule)
        return store

    def test_keep_and_blur_leave_it_alone(self):
        store = self.backed([("keep", "visit", 5), ("keep", "sale", 0), ("blur", "visit", "town", 2, 0),
                             ("blur", "visit", "age", 10, 0), ("sum", "visit", "age", 5)], [LINE, OTHER, SALE], 50)
        self.assertEqual(store.lines(), [])
        store.advance(9999)
        self.assertEqual(store.backup_lines("b"), [SALE, LINE, OTHER])

    def test_forget(self):
        for moment, wanted in ((19, [SALE, LINE, OTHER]), (20, [OTHER]), (99, [OTHER])):
            store = self.backed([("forget", "anna", moment)], [LINE, OTHER, SALE])
            self.assertEqual(store.backup_lines("b"), wanted)
            store.drop_rule(("forget", "anna", moment))
            self.assertEqual(store.backup_lines("b"), wanted)

    def test_erase(self):
        for moment, wanted in ((19, LINE), (20, LINE[:4] + ((("town", "lund"),),)), (99, LINE[:4] + ((("town", "lund"),),))):
            store = self.backed([("erase", "visit", "age", moment), ("erase", "sale", "town", 99)], [LINE])
            self.assertEqual(store.backup_lines("b"), [wanted])
            store.drop_rule(("erase", "visit", "age", moment))
            self.assertEqual(store.backup_lines("b"), [wanted])

    def test_lines_that_become_equal(self):
        store = self.backed([("erase", "visit", "age", 20)], [aged(47), aged(42), aged(42, 4), OTHER])
        self.assertEqual(store.backup_lines("b"), [bare(aged(47)), bare(aged(42, 4)), OTHER])
        self.assertEqual(store.restore("b"), 0)

    def test_protection(self):
        """The guards protect up to the moment 29; the age of LINE is then 9."""
        for guard in (("must", "visit", 10), ("hold", "anna", 30)):
            for rule, wanted in ((("forget", "anna", 20), []), (("erase", "visit", "age", 20), [bare(aged(47))])):
                store = self.backed([rule], [aged(47)], 0, [guard])
                for call in (lambda: store.advance(29), lambda: store.tell(OTHER), lambda: store.restore("b"),
                             lambda: store.backup("c"), lambda: store.set_schema("visit", [])):
                    call()
                    self.assertEqual(store.backup_lines("b"), [aged(47)])
                store.advance(30)
                self.assertEqual(store.backup_lines("b"), wanted)

    def test_protection_is_dropped(self):
        for guard in (("must", "visit", 99), ("hold", "anna", 99)):
            store = self.backed([("forget", "anna", 20)], [LINE], 50, [guard])
            self.assertEqual(store.backup_lines("b"), [LINE])
            store.drop_rule(guard)
            self.assertEqual(store.backup_lines("b"), [])

    def test_protection_of_others(self):
        store = self.backed([("forget", "anna", 20), ("erase", "visit", "age", 99)], [LINE, OTHER, SALE], 50,
                            [("must", "sale", 99), ("hold", "bo", 99)])
        self.assertEqual(store.backup_lines("b"), [SALE, OTHER])

    def test_old_and_new_backups(self):
        store = new_store([], [LINE])
        store.backup("a")
        store.add_rule(("erase", "visit", "age", 20))
        store.backup("b")
        store.add_rule(("forget", "bo", 99))
        store.backup("c")
        for name in "abc":
            self.assertEqual(store.backup_lines(name), [LINE[:4] + ((("town", "lund"),),)])
        store.add_rule(("forget", "anna", 99))
        for name in "abc":
            self.assertEqual(store.backup_lines(name), [])
        self.assertEqual(store.backups(), ["a", "b", "c"])
        self.assertEqual(store.restore("a"), 0)
        self.assertTrue(raises(Refused, store.tell, LINE))

    def test_a_forgotten_subject_does_not_come_back(self):
        store = self.backed([("forget", "anna", 99)], [LINE, OTHER, SALE], 50)
        store.drop_rule(("forget", "anna", 99))
        self.assertEqual(store.restore("b"), 0)
        self.assertEqual(store.lines(), [OTHER])

    def test_failing_calls_leave_it_alone(self):
        store = self.backed([("forget", "anna", 20)], [LINE, OTHER], 0, [("hold", "anna", 30)])
        before = pack_store(store)
        for call, given in ((store.advance, -1), (store.restore, "x"), (store.drop_rule, ("keep", "a", 1)),
                            (store.tell, LINE[:1] + ("nosuch",) + LINE[2:])):
            self.assertRaises(ValueError, call, given)
            self.assertEqual(pack_store(store), before)


if __name__ == "__main__":
    unittest.main()
