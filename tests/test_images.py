"""Points 67 and 68: the image of a store."""

import unittest

from shedbook.errors import Malformed
from shedbook.images import MARKS, pack_store, unpack_store
from shedbook.lines import check_line
from shedbook.rules import check_rule, is_consistent
from shedbook.schemas import check_schema
from shedbook.segments import pack_segment
from shedbook.store import Store
from shedbook.sums import goes
from tests import packing
from tests.fates import expected_fate, expected_in_backup
from tests.helpers import raises, seeded, spoiled_lists
from tests.keeping import PlainStore, outcome, plain_image, random_call, state
from tests.packing import integer, natural, segments, value, word
from tests.stores import LINE, OTHER, SALE, VISIT, aged, new_store

RULES = [("blur", "visit", "age", 10, 5), ("erase", "sale", "cost", 9), ("forget", "cy", 300), ("hold", "bo", 9999),
         ("keep", "visit", 30), ("must", "sale", 129), ("sum", "visit", "age", 10)]
TEXT = "of visit\nwhere not (age above -3 or town is \"lund\")\ngroups by 100 subject : count least that.age\nfirst 5"
EMPTY = [0, 0, 0, 0, 0, 0, 0]


def full_store():
    """Return a store with each of the parts."""
    store = new_store(RULES, [LINE, aged(-7, 4), OTHER], 20)
    store.backup("old")
    store.advance(50)
    store.tell((640, "sale", "cy", 128, (("cost", -64), ("town", "lund"))))
    store.watch("w", TEXT)
    store.watch("ages", "of visit\nrows age")
    store.backup("new")
    store.drop_rule(("hold", "bo", 9999))
    store.add_rule(("hold", "bo", 50))
    store.tell((63, "visit", "bo", 0, ()))
    return store


def plain_parts(store):
    return (store.now(), {kind: store.schema(kind) for kind in store.kinds()}, store.rules(), store.lines(), store.kept(),
            dict(store.watched()), {name: store.backup_lines(name) for name in store.backups()})


class Packing(unittest.TestCase):
    def image(self, store, wanted):
        self.assertEqual(pack_store(store), wanted)
        self.assertEqual(packing.image(*plain_parts(store)), wanted)
        again = unpack_store(wanted)
        self.assertIs(again.__class__, Store)
        self.assertEqual(pack_store(again), wanted)
        shown = state(store)
        self.assertEqual(state(again), shown[:6] + ([],) + shown[7:])

    def test_new(self):
        self.image(Store(), EMPTY)

    def test_moment(self):
        for moment, wanted in ((1, [1]), (127, [127]), (128, [128, 1]), (9999, [143, 78])):
            store = Store()
            store.advance(moment)
            self.image(store, wanted + EMPTY[1:])

    def test_a_moment_beyond_the_limit(self):
        store = Store()
        store.advance(20000)
        self.image(store, natural(20000) + EMPTY[1:])

    def test_schemas(self):
        store = Store()
        store.set_schema("visit", [("age", "int", -5), ("town", "word", "ab")])
        store.set_schema("ab", [])
        self.image(store, [0, 2] + [2, 1, 2, 0] + [5, 22, 9, 19, 9, 20, 2]
                   + [3, 1, 7, 5, 0, 0, 9] + [4, 20, 15, 23, 14, 1, 1, 2, 1, 2] + [0] * 5)

    def test_rules(self):
        for rule, wanted in ((("blur", "a", "b", 10, 5), [0, 1, 1, 1, 1, 1, 2, 0, 20, 0, 10]),
                             (("erase", "a", "b", 9), [1, 1, 1, 1, 1, 1, 2, 0, 18]),
                             (("forget", "a", 64), [2, 1, 1, 1, 0, 128, 1]),
                             (("hold", "a", 1), [3, 1, 1, 1, 0, 2]),
                             (("keep", "a", 0), [4, 1, 1, 1, 0, 0]),
                             (("must", "a", 9999), [5, 1, 1, 1, 0, 158, 156, 1]),
                             (("sum", "a", "b", 7), [6, 1, 1, 1, 1, 1, 2, 0, 14])):
            store = Store()
            store.add_rule(rule)
            self.image(store, [0, 0, 1] + wanted + [0] * 4)

    def test_order_of_the_rules(self):
        store = Store()
        for rule in [("forget", "b", 10), ("sum", "a", "b", 1), ("forget", "b", 9), ("forget", "a", 11)]:
            store.add_rule(rule)
        self.image(store, [0, 0, 4] + [2, 1, 1, 1, 0, 22] + [2, 1, 1, 2, 0, 18] + [2, 1, 1, 2, 0, 20]
                   + [6, 1, 1, 1, 1, 1, 2, 0, 2] + [0] * 4)

    def test_segments(self):
        store = Store()
        store.set_schema("a", [])
        for time in (63, 64, 0, 9999):
            store.tell((time, "a", "b", 5, ()))
        self.image(store, [0, 1, 1, 1, 0, 0, 3]
                   + [0, 16, 2, 2, 1, 1, 1, 2, 0, 63, 0, 2, 1, 2, 5, 5, 0, 0]
                   + [1, 13, 1, 2, 1, 1, 1, 2, 64, 0, 1, 1, 1, 5, 0]
                   + [156, 1, 14, 1, 2, 1, 1, 1, 2, 143, 78, 0, 1, 1, 1, 5, 0] + [0] * 3)

    def test_a_long_segment(self):
        store = Store()
        store.set_schema("a", [])
        lines = [(1, "a", "b", serial, ()) for serial in range(100)]
        for line in lines:
            store.tell(line)
        data = pack_segment(lines)
        self.assertGreater(len(data), 127)
        self.image(store, [0, 1, 1, 1, 0, 0, 1, 0] + natural(len(data)) + data + [0] * 3)

    def test_kept_sums(self):
        store = Store()
        store.set_schema("a", [])
        store.add_rule(("sum", "a", "n", 100))
        store.add_rule(("keep", "a", 0))
        for time, subject, number in ((999, "b", -3), (900, "b", 5), (950, "b", -64), (950, "a", 7), (5, "b", 1)):
            store.tell((time, "a", subject, 0, (("n", number),)))
        store.advance(9999)
        self.assertEqual(store.kept(), [("a", "n", 100, 0, "b", 1, 1, 1, 1), ("a", "n", 100, 9, "a", 1, 7, 7, 7),
                                        ("a", "n", 100, 9, "b", 3, -62, -64, 5)])
        start = [1, 1, 1, 14, 100]
        self.image(store, [143, 78, 1, 1, 1, 0, 2] + [4, 1, 1, 1, 0, 0] + [6, 1, 1, 1, 1, 1, 14, 0, 200, 1] + [0, 3]
                   + start + [0, 1, 2, 1, 2, 2, 2] + start + [9, 1, 1, 1, 14, 14, 14]
                   + start + [9, 1, 2, 3, 123, 127, 10] + [0, 0])

    def test_standing_questions(self):
        store = Store()
        store.watch("w", "of a\nrows that.b")
        store.watch("v", "of a\nwhere not (b is -9 or c is \"z\")\ngroups : count")
        self.image(store, [0] * 5 + [2]
                   + [1, 22, 51] + [79, 70, 1, 65, 0] + [87, 72, 69, 82, 69, 1, 78, 79, 84, 1, 8, 66, 1, 73, 83, 1, 13, 25]
                   + [1, 79, 82, 1, 67, 1, 73, 83, 1, 3, 90, 3, 9, 0] + [71, 82, 79, 85, 80, 83, 1, 26, 1, 67, 79, 85, 78, 84]
                   + [1, 23, 16] + [79, 70, 1, 65, 0] + [82, 79, 87, 83, 1, 84, 72, 65, 84, 14, 66] + [0])

    def test_marks(self):
        wanted = ["\n"] + [chr(code) for code in range(32, 127) if code != 37]
        self.assertEqual(list(MARKS), wanted)
        self.assertEqual(MARKS.index("a"), 65)

    def test_backups(self):
        store = Store()
        store.backup("b")
        store.set_schema("a", [])
        store.tell((64, "a", "b", 5, ()))
        store.backup("ab")
        store.tell((0, "a", "b", 5, ()))
        store.backup("c")
        first, second = [0, 12, 1, 2, 1, 1, 1, 2, 0, 0, 1, 1, 1, 5, 0], [1, 13, 1, 2, 1, 1, 1, 2, 64, 0, 1, 1, 1, 5, 0]
        first[1] = len(first) - 2
        self.image(store, [0, 1, 1, 1, 0, 0, 2] + first + second + [0, 0, 3]
                   + [2, 1, 2, 1] + second + [1, 2, 0] + [1, 3, 2] + first + second)

    def test_all_parts(self):
        store = full_store()
        for part in state(store)[1:6] + state(store)[7:]:
            self.assertGreater(len(part), 0)
        self.assertGreater(len(store.kept()), 0)
        self.image(store, packing.image(*plain_parts(store)))

    def test_it_depends_on_nothing_else(self):
        one, other = Store(), Store()
        for store, order in ((one, 1), (other, -1)):
            for kind in ("sale", "visit")[::order]:
                store.set_schema(kind, VISIT)
            for rule in RULES[::order]:
                store.add_rule(rule)
            for line in [LINE, OTHER, SALE][::order]:
                store.tell(line)
            for name, text in (("v", TEXT), ("w", "of sale\nrows  cost"))[::order]:
                store.watch(name, text)
            for name in ("b", "c")[::order]:
                store.backup(name)
        other.ask(TEXT)
        other.watch("x", TEXT)
        other.unwatch("x")
        other.backup("x")
        other.drop_backup("x")
        other.add_rule(("forget", "dora", 5))
        other.drop_rule(("forget", "dora", 5))
        one.advance(25)
        other.advance(22)
        other.advance(25)
        self.assertEqual(pack_store(one), pack_store(other))


class Unpacking(unittest.TestCase):
    def bad(self, data):
        self.assertTrue(raises(Malformed, unpack_store, data), data)

    def good(self, data):
        self.assertEqual(pack_store(unpack_store(data)), data)

    def image(self, moment=0, schemas=None, rules=(), lines=(), kept=(), asked=None, backups=None):
        return packing.image(moment, {"visit": [], "sale": []} if schemas is None else schemas, list(rules), list(lines),
                             list(kept), asked or {}, backups or {})

    def test_news_and_latest_rows(self):
        store = full_store()
        self.assertNotEqual(store.news(), [])
        again = unpack_store(pack_store(store))
        self.assertEqual(again.news(), [])
        for made in (store, again):
            made.advance(made.now())
            self.assertEqual(made.news(), [])
            made.tell((70, "visit", "bo", 9, (("age", 66),)))
            self.assertEqual(made.news(), [("ages", [(66,)], [])])

    def test_nothing_is_shared(self):
        data = pack_store(full_store())
        given = list(data)
        first, second = unpack_store(given), unpack_store(given)
        self.assertEqual(given, data)
        given.clear()
        first.tell((70, "visit", "dora", 9, ()))
        first.advance(9000)
        self.assertEqual(pack_store(second), data)

    def test_spoiled(self):
        """One place is changed, put in, taken out, doubled or swapped with the next one, or the end is cut off."""
        few = [0, 1, 2, 7, 20, 64, 95, 127, 128, 255]
        for data, inserts in ((pack_store(full_store()), few), (small_image(), list(range(256)))):
            accepted = 0
            for spoiled in spoiled_lists(data, inserts):
                try:
                    store = unpack_store(list(spoiled))
                except Malformed as error:
                    self.assertIs(error.__class__, Malformed)
                    continue
                accepted += 1
                self.assertEqual(pack_store(store), spoiled)
                self.check_sound(store)
            self.assertGreater(accepted, 100)

    def check_sound(self, store):
        """Check that what was accepted could be the state of a store."""
        rules, now = store.rules(), store.now()
        for kind in store.kinds():
            check_schema(kind, store.schema(kind))
        for rule in rules:
            check_rule(rule)
        self.assertTrue(is_consistent(rules))
        for line in store.lines():
            check_line(line)
            self.assertIn(line[1], store.kinds())
            self.assertEqual(expected_fate(rules, now, line)[0], line)
        for row in store.kept():
            self.assertFalse(goes(rules, now, row))
            self.assertTrue(row[5] > 0 and row[7] * row[5] <= row[6] <= row[8] * row[5])
        for name in store.backups():
            for line in store.backup_lines(name):
                check_line(line)
                self.assertIn(line[1], store.kinds())
                self.assertEqual(expected_in_backup(rules, now, line), line)
        store.advance(now)
        self.assertEqual(store.news(), [])

    def test_cut_and_longer(self):
        data = pack_store(full_store())
        for k in range(len(data)):
            self.bad(data[:k])
        for byte in range(256):
            self.bad(data + [byte])
            self.bad(EMPTY + [byte])
        self.bad(data + data)
        self.bad([])

    def test_superfluous_digits(self):
        data = pack_store(full_store())
        for k in range(len(data)):
            if data[k] < 128:
                self.bad(data[:k] + [data[k] + 128, 0] + data[k + 1:])

    def test_large_lists(self):
        for byte in (0, 1, 127, 128, 255):
            self.bad([byte] * 300000)
            for k in range(7):
                self.bad(EMPTY[:k] + [byte] * 100000)
        for k in range(1, 7):
            self.bad(EMPTY[:k] + natural(2 ** 60) + EMPTY[k:])

    def test_schemas(self):
        def schemas(*parts):
            return [0] + packing.counted(list(parts)) + [0] * 5
        a, b = word("a") + [0], word("b") + [0]
        self.good(schemas(a, b))
        for parts in ((b, a), (a, a), (a, word("a") + [1] + word("n") + [0] + value(3))):
            self.bad(schemas(*parts))
        one = word("a") + [1]
        self.good(schemas(one + word("n") + [0] + value(3)))
        self.good(schemas(one + word("n") + [1] + value("ab")))
        for spoiled in (word("n") + [0] + value("ab"), word("n") + [1] + value(3), word("n") + [2] + value(3),
                        word("") + [0] + value(3), word("n") + [0] + value(1000000), word("n") + [0, 2] + integer(3)):
            self.bad(schemas(one + spoiled))
        first, second = word("m") + [0] + value(3), word("n") + [0] + value(3)
        self.good(schemas(word("a") + [2] + first + second))
        self.bad(schemas(word("a") + [2] + second + first))
        self.bad(schemas(word("a") + [2] + first + first))
        seven = [word(name) + [0] + value(3) for name in "abcdefg"]
        self.good(schemas(word("a") + packing.counted(seven[:6])))
        self.bad(schemas(word("a") + packing.counted(seven)))

    def test_rules(self):
        def rules(*parts):
            return [0, 0] + packing.counted([packing.rule(part) for part in parts]) + [0] * 4
        good = [("blur", "a", "n", 10, 5), ("blur", "a", "n", 20, 1), ("forget", "a", 9), ("forget", "a", 10), ("hold", "a", 1),
                ("keep", "a", 5), ("must", "a", 5)]
        self.good(rules(*good))
        for k in range(len(good) - 1):
            self.bad(rules(*(good[:k] + [good[k]] + good[k:])))
            self.bad(rules(*(good[:k] + [good[k + 1], good[k]] + good[k + 2:])))
        for clashing in ([("keep", "a", 5), ("keep", "a", 6)], [("keep", "a", 5), ("must", "a", 6)],
                         [("must", "a", 5), ("must", "a", 6)], [("sum", "a", "n", 5), ("sum", "a", "n", 6)],
                         [("blur", "a", "n", 10, 5), ("blur", "a", "n", 10, 6)],
                         [("blur", "a", "n", 10, 5), ("blur", "a", "n", 15, 5)]):
            self.bad(rules(*clashing))
        for spoiled in (("keep", "a", -1), ("keep", "a", 10000), ("must", "a", 0), ("hold", "a", 0), ("keep", 5, 5),
                        ("keep", "a", "b"), ("sum", "a", "n", 0), ("sum", "a", "n", 1000), ("blur", "a", "n", 1, 0),
                        ("blur", "a", "n", 1001, 0), ("forget", "a", 10000), ("erase", "a", 5, 5), ("keep", "a", 5, 5),
                        ("keep", "a")):
            self.bad(rules(spoiled))
        for place in (7, 8, 127, 128, 255):
            self.bad([0, 0, 1, place, 1, 1, 1, 0, 10, 0, 0, 0, 0])

    def test_lines(self):
        self.good(self.image(lines=[SALE, LINE]))
        self.bad(self.image(lines=[SALE, LINE], schemas={"visit": []}))
        self.bad(self.image(lines=[LINE, LINE]))
        self.bad(self.image(lines=[LINE, SALE]))
        self.bad(self.image(lines=[(10000, "visit", "anna", 0, ())]))

    def test_numbers_of_segments(self):
        data = packing.expected_pack([LINE])
        late = packing.expected_pack([(64, "visit", "anna", 0, ())])
        start, end = self.image()[:-4], [0] * 3
        one, other = [0] + natural(len(data)) + data, [1] + natural(len(late)) + late
        self.good(start + packing.counted([one, other]) + end)
        for parts in ([other, one], [one, one], [one, [0] + other[1:]], [[1] + one[1:]], [one[:1] + natural(len(data) + 1)
                      + data], [one[:1] + natural(len(data) - 1) + data], [one[:1] + natural(len(data) + 1) + data + [0]],
                      [[0, 2, 0, 0]], [[0, 0]]):
            self.bad(start + packing.counted(parts) + end)
        two = [packing.expected_pack([line]) for line in (LINE, OTHER)]
        self.bad(start + packing.counted([[0] + natural(len(part)) + part for part in two]) + end)

    def test_lines_that_the_rules_would_change_or_take(self):
        for rule, first, then in ((("keep", "visit", 10), 29, 30), (("blur", "visit", "age", 10, 10), 29, 30)):
            self.good(self.image(first, rules=[rule], lines=[LINE]))
            self.bad(self.image(then, rules=[rule], lines=[LINE]))
            guarded = sorted([rule, ("hold", "anna", then + 1)])
            self.good(self.image(then, rules=guarded, lines=[LINE]))
            self.good(self.image(then, rules=[rule], backups={"b": [LINE]}))
        for rule, fine in ((("forget", "anna", 20), ("forget", "anna", 19)),
                           (("erase", "visit", "age", 20), ("erase", "visit", "age", 19))):
            self.good(self.image(rules=[fine], lines=[LINE], backups={"b": [LINE]}))
            self.bad(self.image(rules=[rule], lines=[LINE]))
            self.bad(self.image(rules=[rule], backups={"b": [LINE]}))
            self.good(self.image(rules=[rule, ("must", "visit", 9)], lines=[LINE], backups={"b": [LINE]}))
            self.bad(self.image(29, rules=[rule, ("must", "visit", 9)], backups={"b": [LINE]}))

    def test_kept_sums(self):
        row = ("visit", "age", 10, 2, "anna", 3, 60, -5, 47)
        rule = ("sum", "visit", "age", 10)
        self.good(self.image(rules=[rule], kept=[row]))
        self.bad(self.image(kept=[row]))
        for going in (("forget", "anna", 20), ("erase", "visit", "age", 20)):
            self.bad(self.image(rules=[going, rule], kept=[row]))
            self.good(self.image(rules=[going[:-1] + (19,), rule], kept=[row]))
        held = [("forget", "anna", 20), ("hold", "anna", 5), rule]
        self.good(self.image(4, rules=held, kept=[row]))
        self.bad(self.image(5, rules=held, kept=[row]))
        other = row[:4] + ("bo",) + row[5:]
        self.good(self.image(rules=[rule], kept=[row, other]))
        for kept in ([other, row], [row, row], [row, row[:5] + (4, 70, -5, 47)], [row[:5] + (4, 70, -5, 47), row]):
            self.bad(self.image(rules=[rule], kept=kept))
        for totals in ((0, 0, 0, 0), (1, 5, 4, 6), (1, 5, 6, 4), (2, 9, 4, 6), (2, 10, 4, 6), (3, 13, 4, 6), (3, 17, 4, 6),
                       (1, 1000000, 1000000, 1000000), (1, -1000000, -1000000, -1000000),
                       (2, -1000000, -1000000, 0), (2, 1000000, 0, 1000000)):
            spoiled = self.image(rules=[rule], kept=[row[:5] + totals])
            if totals == (2, 10, 4, 6):
                self.good(spoiled)
            else:
                self.bad(spoiled)
        for totals in ((3, 14, 4, 6), (3, 16, 4, 6), (1, -999999, -999999, -999999), (2, 0, -999999, 999999)):
            self.good(self.image(rules=[rule], kept=[row[:5] + totals]))
        self.good(self.image(rules=[rule], kept=[row[:3] + (999,) + row[4:]]))
        self.bad(self.image(rules=[rule], kept=[row[:3] + (1000,) + row[4:]]))
        self.good(self.image(rules=[("sum", "visit", "age", 9)], kept=[("visit", "age", 9, 1111) + row[4:]]))
        self.bad(self.image(rules=[rule], kept=[row[:2] + (9,) + row[3:]]))

    def test_standing_questions(self):
        def asked(*parts):
            return [0] * 5 + packing.counted([word(name) + packing.question(text) for name, text in parts]) + [0]
        text, other = "of sale\nrows cost", "of sale\ngroups : count"
        self.good(asked(("v", text), ("w", other)))
        for parts in ((("w", text), ("v", other)), (("v", text), ("v", text)), (("v", text), ("v", other)), (("", text),)):
            self.bad(asked(*parts))
        for spoiled in ("", "of sale", "of sale\nrows", "of sale\nrows  cost", "of sale \nrows cost", text + "\n",
                        "of sale\nwhere (cost is 1)\nrows cost", "of sale\nrows Cost", "of sale\nrows cost\norder 1 up",
                        "of sale\nwhere cost is " + "9" * 5000 + "\nrows cost"):
            self.bad(asked(("v", spoiled)))
        data = asked(("v", text))
        for byte in (95, 96, 127, 128, 255):
            self.bad(data[:12] + [byte] + data[13:])

    def test_backups(self):
        self.good(self.image(backups={"b": [], "c": [LINE]}))
        start = self.image()[:-1]
        b, c = word("b") + segments([LINE]), word("c") + [0]
        self.good(start + packing.counted([b, c]))
        for parts in ([c, b], [b, b], [b, word("b") + [0]], [word("") + [0]], [word("b")]):
            self.bad(start + packing.counted(parts))
        for lines in ([LINE, LINE], [LINE, SALE], [(20, "nosuch", "anna", 0, ())]):
            self.bad(self.image(backups={"b": lines}))

    def test_random_stores(self):
        rng = seeded(68)
        for _ in range(15):
            store, plain = Store(), PlainStore()
            for _ in range(rng.randint(0, 60)):
                name, given, plainly = random_call(rng, plain)
                outcome(getattr(store, name), *given)
                outcome(getattr(plain, name), *plainly)
            data = pack_store(store)
            self.assertEqual(data, plain_image(plain))
            for spoiled in rng.sample(spoiled_lists(data, [0, 1, 2, 127, 128]), 60):
                try:
                    found = unpack_store(spoiled)
                except Malformed:
                    continue
                self.assertEqual(pack_store(found), spoiled)
                self.check_sound(found)


def small_image():
    """Return the image of a small store."""
    store = Store()
    store.set_schema("a", [("n", "int", 0)])
    for rule in (("keep", "a", 3), ("sum", "a", "n", 5)):
        store.add_rule(rule)
    store.tell((0, "a", "b", 0, (("n", -1),)))
    store.watch("w", "of a\nrows n")
    store.backup("c")
    store.advance(3)
    store.tell((5, "a", "b", 0, ()))
    return pack_store(store)


if __name__ == "__main__":
    unittest.main()
