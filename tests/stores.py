"""Small stores for tests, and a test case that checks calls that raise."""

import unittest

from shedbook.images import pack_store
from shedbook.store import Store
from tests.helpers import raises
from tests.keeping import state

VISIT = [("age", "int", 0), ("town", "word", "none")]
LINE = (20, "visit", "anna", 3, (("age", 47), ("town", "lund")))
OTHER = (21, "visit", "bo", 0, (("age", 12),))
SALE = (20, "sale", "anna", 0, (("cost", 5),))


def aged(age, serial=3, time=20, subject="anna"):
    return (time, "visit", subject, serial, (("age", age),))


def new_store(rules=(), lines=(), now=0):
    store = Store()
    store.set_schema("visit", VISIT)
    store.set_schema("sale", [])
    for line in lines:
        store.tell(line)
    for rule in rules:
        store.add_rule(rule)
    store.advance(now)
    return store


class Case(unittest.TestCase):
    def fails(self, error, store, name, *given):
        """Check that a call raises an error and leaves the store as it was."""
        before = (state(store), pack_store(store))
        self.assertTrue(raises(error, getattr(store, name), *given), (name, given))
        self.assertEqual((state(store), pack_store(store)), before)
