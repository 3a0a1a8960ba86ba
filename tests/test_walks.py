"""Points 72 to 74: what rules name, and the records of walks."""

import copy
import unittest

from shedbook.errors import NotFound
from shedbook.images import pack_store
from shedbook.store import Store
from shedbook.walks import accepts_record, is_item_protected, make_record, names_in_backup, names_line, names_sum
from tests import helpers
from tests.fates import expected_fate, is_kept_safe
from tests.helpers import raises, random_line, seeded
from tests.keeping import PlainStore, outcome, random_call, random_rule, random_told
from tests.stores import LINE, OTHER, SALE, aged, new_store

ROW = ("visit", "age", 10, 2, "anna", 3, 60, -5, 47)
HOLD = ("hold", "anna", 90)
FORGET = ("forget", "anna", 99)
ERASE = ("erase", "visit", "age", 99)


def plain_names_line(rule, now, line, in_backup=False):
    """Tell by point 72 whether a rule names a line: by what it would do to it if it were alone."""
    if rule[0] not in ("forget", "erase") and (in_backup or rule[0] not in ("keep", "blur")):
        return False
    return expected_fate([rule], now, line)[0] != line


class Naming(unittest.TestCase):
    def line(self, rule, now, line, wanted, in_backup=False):
        self.assertIs(names_line(rule, now, line), wanted, (rule, now, line))
        self.assertIs(names_in_backup(rule, line), in_backup, (rule, now, line))

    def test_forget(self):
        for moment, wanted in ((0, False), (19, False), (20, True), (21, True), (9999, True)):
            for now in (0, 20, 9999):
                self.line(("forget", "anna", moment), now, LINE, wanted, wanted)
                self.line(("forget", "bo", moment), now, LINE, False)
                self.line(("forget", "visit", moment), now, LINE, False)
        self.line(("forget", "anna", 0), 5, (0, "visit", "anna", 0, ()), True, True)

    def test_keep(self):
        for now, wanted in ((0, False), (20, False), (29, False), (30, True), (31, True), (9999, True)):
            self.line(("keep", "visit", 10), now, LINE, wanted)
            self.line(("keep", "sale", 10), now, LINE, False)
            self.line(("keep", "anna", 10), now, LINE, False)
        self.line(("keep", "visit", 0), 19, LINE, False)
        self.line(("keep", "visit", 0), 20, LINE, True)

    def test_erase(self):
        for moment, wanted in ((0, False), (19, False), (20, True), (21, True), (9999, True)):
            for now in (0, 20, 9999):
                for field in ("age", "town"):
                    self.line(("erase", "visit", field, moment), now, LINE, wanted, wanted)
                self.line(("erase", "visit", "cost", moment), now, LINE, False)
                self.line(("erase", "sale", "age", moment), now, LINE, False)
                self.line(("erase", "visit", "age", moment), now, (20, "visit", "anna", 3, ()), False)

    def test_blur(self):
        for now, wanted in ((0, False), (24, False), (25, True), (26, True), (9999, True)):
            for field in ("age", "town"):
                self.line(("blur", "visit", field, 10, 5), now, LINE, wanted)
            self.line(("blur", "visit", "cost", 10, 5), now, LINE, False)
            self.line(("blur", "sale", "age", 10, 5), now, LINE, False)

    def test_blur_of_values(self):
        for step, value, wanted in ((10, 40, False), (10, 41, True), (10, -40, False), (10, -39, True), (2, 0, False),
                                    (1000, 999, True), (10, "a", False), (10, "ab", True), (1000, -999999, False),
                                    (1000, -999998, True)):
            self.line(("blur", "visit", "age", step, 0), 20, LINE[:4] + ((("age", value),),), wanted)

    def test_rules_that_name_nothing(self):
        for now in (0, 20, 9999):
            for rule in (("must", "visit", 9999), ("must", "visit", 1), ("hold", "anna", 9999), ("hold", "anna", 1),
                         ("sum", "visit", "age", 10), ("sum", "visit", "age", 1)):
                self.line(rule, now, LINE, False)
                self.assertIs(names_sum(rule, ROW), False)

    def test_sums(self):
        """The first time of the window is 20."""
        for moment, wanted in ((0, False), (19, False), (20, True), (21, True), (9999, True)):
            self.assertIs(names_sum(("forget", "anna", moment), ROW), wanted)
            self.assertIs(names_sum(("erase", "visit", "age", moment), ROW), wanted)
            for rule in (("forget", "bo", moment), ("forget", "visit", moment), ("erase", "visit", "cost", moment),
                         ("erase", "sale", "age", moment), ("erase", "age", "visit", moment)):
                self.assertIs(names_sum(rule, ROW), False)
        for rule in (("keep", "visit", 0), ("blur", "visit", "age", 2, 0), ("sum", "visit", "age", 10)):
            self.assertIs(names_sum(rule, ROW), False)
        first = ROW[:3] + (0,) + ROW[4:]
        self.assertIs(names_sum(("forget", "anna", 0), first), True)
        self.assertIs(names_sum(("erase", "visit", "age", 0), first), True)

    def test_against_what_the_rules_do(self):
        rng = seeded(72)
        seen = {}
        for _ in range(5000):
            rule, line, now = helpers.random_rule(rng, 30), random_line(rng, 30), rng.randint(0, 60)
            found = names_line(rule, now, line)
            self.assertIs(found, plain_names_line(rule, now, line), (rule, now, line))
            self.assertIs(names_in_backup(rule, line), plain_names_line(rule, now, line, True), (rule, line))
            seen[(rule[0], found)] = seen.get((rule[0], found), 0) + 1
        self.assertEqual(sorted(seen), [("blur", False), ("blur", True), ("erase", False), ("erase", True),
                                        ("forget", False), ("forget", True), ("hold", False), ("keep", False),
                                        ("keep", True), ("must", False), ("sum", False)])


def walked_store():
    """Return a store with several segments, kept sums and backups, in which anna is held."""
    store = new_store([("keep", "visit", 10), ("sum", "visit", "age", 10), ("blur", "sale", "cost", 10, 3)])
    store.backup("empty")
    store.tell(LINE)
    store.tell(OTHER)
    store.advance(30)
    store.add_rule(HOLD)
    for line in (aged(7), aged(9), (130, "visit", "anna", 0, (("age", 5),)), (130, "visit", "bo", 0, (("age", 6),)),
                 (64, "sale", "anna", 0, (("cost", 11),)), SALE):
        store.tell(line)
    store.backup("full")
    store.advance(80)
    store.add_rule(FORGET)
    store.add_rule(ERASE)
    return store


class Records(unittest.TestCase):
    def test_not_found(self):
        store = walked_store()
        for made in (store, Store()):
            for rule in (("forget", "anna", 98), ("forget", "cy", 99), ("keep", "visit"), ()):
                self.assertTrue(raises(NotFound, make_record, made, rule))
        self.assertTrue(raises(NotFound, make_record, Store(), FORGET))

    def test_an_empty_store(self):
        store = Store()
        store.add_rule(FORGET)
        self.assertEqual(make_record(store, FORGET), (FORGET, 0, [(("sums",), 0)], []))
        store.backup("b")
        store.advance(7)
        self.assertEqual(make_record(store, FORGET), (FORGET, 7, [(("sums",), 0), (("backup", "b"), 0)], []))

    def test_every_rule(self):
        store = walked_store()
        early, late, sold = (130, "visit", "anna", 0, (("age", 5),)), (130, "visit", "bo", 0, (("age", 6),)), (
            64, "sale", "anna", 0, (("cost", 11),))
        # The sums of anna would go by "forget" if anna were not held; the one of the window 2 went by "erase".
        visits = [(("segment", 0), 3), (("segment", 1), 1), (("segment", 2), 2), (("sums",), 0), (("backup", "empty"), 0),
                  (("backup", "full"), 7)]
        bare = (21, "visit", "bo", 0, ())
        self.assertEqual(store.backup_lines("full"), [SALE, aged(7), aged(9), bare, sold, early, late])
        zero, one, full = ("segment", 0), ("segment", 1), ("backup", "full")
        wanted = {
            FORGET: [(zero, SALE), (zero, aged(7)), (zero, aged(9)), (one, sold), (full, SALE), (full, aged(7)),
                     (full, aged(9)), (full, sold)],
            ERASE: [(zero, aged(7)), (zero, aged(9)), (full, aged(7)), (full, aged(9))],
            ("keep", "visit", 10): [(zero, aged(7)), (zero, aged(9))],
            ("blur", "sale", "cost", 10, 3): [(zero, SALE), (one, sold)],
            HOLD: [],
            ("sum", "visit", "age", 10): [],
        }
        self.assertEqual(sorted(wanted), store.rules())
        for rule, rest in wanted.items():
            self.assertEqual(make_record(store, rule), (rule, 80, visits, rest))
            self.assertIs(accepts_record(pack_store(store), make_record(store, rule)), True)

    def test_kept_sums(self):
        store = new_store([("keep", "visit", 10), ("sum", "visit", "age", 10)], [LINE, OTHER, aged(5, 0, 100)], 30)
        store.add_rule(("hold", "anna", 90))
        store.add_rule(FORGET)
        store.advance(50)
        rows = [("visit", "age", 10, 2, "anna", 1, 47, 47, 47), ("visit", "age", 10, 2, "bo", 1, 12, 12, 12)]
        self.assertEqual(store.kept(), rows)
        self.assertEqual(make_record(store, FORGET), (FORGET, 50, [(("segment", 1), 1), (("sums",), 2)],
                                                      [(("sums",), rows[0])]))
        store.advance(90)
        self.assertEqual(make_record(store, FORGET), (FORGET, 90, [(("segment", 1), 1), (("sums",), 1)], []))

    def test_the_rest_is_protected(self):
        rng = seeded(74)
        seen = {}
        for _ in range(60):
            store, plain = Store(), PlainStore()
            for kind in ("sale", "refund", "visit"):
                store.set_schema(kind, [])
                plain.set_schema(kind, [])
            calls = [random_call(rng, plain) for _ in range(20)]
            calls.append(("add_rule",) + ((("hold", "ann", 500),),) * 2)
            calls += [("tell",) + ((random_told(rng, plain),),) * 2 for _ in range(8)] + [("backup", ("z",), ("z",))]
            calls += [("add_rule",) + ((random_rule(rng, plain),),) * 2 for _ in range(10)]
            for name, given, plainly in calls:
                outcome(getattr(store, name), *given)
                outcome(getattr(plain, name), *plainly)
            image = pack_store(store)
            for rule in store.rules():
                record = make_record(store, rule)
                self.assertEqual(record, plain_record(plain, rule))
                self.assertIs(accepts_record(image, record), True)
                for place, item in record[3]:
                    seen[place[0]] = seen.get(place[0], 0) + 1
                    if place == ("sums",):
                        self.assertTrue([r for r in store.rules() if r[:2] == ("hold", item[4]) and r[2] > store.now()])
                    else:
                        self.assertTrue(is_kept_safe(store.rules(), store.now(), item))
        self.assertGreater(min(seen["segment"], seen["backup"]), 30)

    def test_nothing_is_shared(self):
        store = walked_store()
        image = pack_store(store)
        record = make_record(store, FORGET)
        wanted = copy.deepcopy(record)
        record[2].clear()
        record[3].clear()
        self.assertEqual(make_record(store, FORGET), wanted)
        self.assertEqual(pack_store(store), image)
        given = (list(image), copy.deepcopy(wanted))
        self.assertIs(accepts_record(*given), True)
        self.assertEqual(given, (image, wanted))


def plain_record(plain, rule):
    """Return the record by another way than the program."""
    stops = [(("segment", n), [line for line in plain.lines if line[0] // 64 == n])
             for n in sorted({line[0] // 64 for line in plain.lines})]
    stops += [(("sums",), plain.kept())] + [(("backup", name), plain.backups[name]) for name in sorted(plain.backups)]
    rest = []
    for place, items in stops:
        for item in items:
            if place == ("sums",):
                start = item[2] * item[3]
                named = (rule[:2] == ("forget", item[4]) and start <= rule[2]
                         or rule[:3] == ("erase",) + item[:2] and start <= rule[3])
            else:
                named = plain_names_line(rule, plain.moment, item, place[0] == "backup")
            if named:
                rest.append((place, item))
    return (rule, plain.moment, [(place, len(items)) for place, items in stops], rest)


class Accepting(unittest.TestCase):
    def setUp(self):
        self.store = walked_store()
        self.image = pack_store(self.store)
        self.record = make_record(self.store, FORGET)

    def refused(self, record, image=None):
        self.assertIs(accepts_record(self.image if image is None else image, record), False)

    def test_true_records(self):
        for rule in self.store.rules():
            self.assertIs(accepts_record(self.image, make_record(self.store, rule)), True)

    def test_another_rule(self):
        _, moment, visits, rest = self.record
        for rule in [other for other in self.store.rules() if other != FORGET] + [
                ("forget", "anna", 98), ("forget", "bo", 99), (), ("forget",), ("forget", "anna"), (5, 5), ("forget", "anna", 99, 0)]:
            self.refused((rule, moment, visits, rest))

    def test_another_moment(self):
        rule, moment, visits, rest = self.record
        for other in (moment - 1, moment + 1, 0, -moment, 10 ** 30):
            self.refused((rule, other, visits, rest))

    def test_other_visits(self):
        rule, moment, visits, rest = self.record
        for k in range(len(visits)):
            place, many = visits[k]
            for other in ([], [visits[k]] * 2, [(place, many + 1)], [(place, many - 1)], [place + (many,)], [(many, place)],
                          [()], [("sums",)], [(("sums",), many, many)], [(("segment", 9), many)], [(("backup", "x"), many)]):
                if other != [visits[k]]:
                    self.refused((rule, moment, visits[:k] + other + visits[k + 1:], rest))
            if k > 0:
                self.refused((rule, moment, [visits[k]] + visits[:k] + visits[k + 1:], rest))
        self.refused((rule, moment, [], rest))
        self.refused((rule, moment, visits + [(("backup", "zzz"), 0)], rest))

    def test_another_rest(self):
        rule, moment, visits, rest = self.record
        self.assertGreater(len(rest), 5)
        for k in range(len(rest)):
            place, item = rest[k]
            for other in ([], [rest[k]] * 2, [(place, item[:3] + (item[3] + 1,) + item[4:])], [(("sums",), item)],
                          [(("segment", 9), item)], [(place, ())], [()], [place], [item], [(place, ROW)], [(place, item, item)]):
                self.refused((rule, moment, visits, rest[:k] + other + rest[k + 1:]))
            if k > 0:
                self.refused((rule, moment, visits, [rest[k]] + rest[:k] + rest[k + 1:]))
        self.refused((rule, moment, visits, []))
        self.refused((rule, moment, visits, rest + [(("sums",), ROW)]))
        self.refused((rule, moment, rest, visits))

    def test_strange_forms(self):
        rule, moment, visits, rest = self.record
        deep = ()
        for _ in range(50):
            deep = (deep,)
        for strange in ((), ((),), deep, ("segment", 0, 3), (0, 0), ("a",), (("segment", "a"), "b"), (("backup", 5), -1),
                        ((("segment", 0),), 3), (("sums",), (("sums",), 0))):
            self.refused((rule, moment, [strange], rest))
            self.refused((rule, moment, visits, [strange]))
            self.refused((rule, moment, [strange] + visits[1:], [strange] + rest[1:]))
            self.refused((rule, moment, visits + [strange], rest + [strange]))

    def test_earlier_states(self):
        """A record for a state that has passed, and the image of an earlier state, do not fit."""
        for call in (lambda: self.store.tell((70, "sale", "bo", 0, ())), lambda: self.store.advance(85),
                     lambda: self.store.backup("x"), lambda: self.store.drop_backup("empty"),
                     lambda: self.store.drop_rule(HOLD), lambda: self.store.drop_rule(FORGET)):
            image = pack_store(self.store)
            record = make_record(self.store, FORGET)
            call()
            self.refused(record, pack_store(self.store))
            if FORGET in self.store.rules():
                self.refused(make_record(self.store, FORGET), image)
                self.assertIs(accepts_record(pack_store(self.store), make_record(self.store, FORGET)), True)
            self.assertIs(accepts_record(image, record), True)

    def test_what_a_record_does_not_tell(self):
        """The record is that of the walk over this other state as well."""
        self.store.set_schema("nosuch", [])
        self.assertIs(accepts_record(pack_store(self.store), self.record), True)

    def test_bytes_that_are_no_image(self):
        for data in ([], [0], [255] * 50, self.image[:-1], self.image + [0], [self.image[0] + 1] + self.image[1:] + [7]):
            self.refused(self.record, data)
        self.refused(self.record, pack_store(Store()))

    def test_protection_of_items(self):
        """An unpacked store has only protected items in the rest; here the other ones are looked at."""
        store = self.store
        for place in (("segment", 0), ("backup", "full")):
            self.assertIs(is_item_protected(store, place, LINE), True)
            self.assertIs(is_item_protected(store, place, OTHER), False)
        self.assertIs(is_item_protected(store, ("sums",), ROW), True)
        self.assertIs(is_item_protected(store, ("sums",), ROW[:4] + ("bo",) + ROW[5:]), False)
        store.add_rule(("must", "sale", 100))
        self.assertIs(is_item_protected(store, ("segment", 0), (20, "sale", "bo", 0, ())), True)
        self.assertIs(is_item_protected(store, ("sums",), ("sale",) + ROW[1:4] + ("bo",) + ROW[5:]), False)
        store.advance(90)
        self.assertIs(is_item_protected(store, ("segment", 0), LINE), False)
        self.assertIs(is_item_protected(store, ("sums",), ROW), False)


if __name__ == "__main__":
    unittest.main()
