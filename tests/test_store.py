"""Points 63 and 64: what a store has, and how the rules are applied to it."""

import unittest

from shedbook.errors import (Clash, Duplicate, InvalidLine, InvalidRule, InvalidSchema, NotFound, Past, Refused,
                             UnknownKind)
from shedbook.images import pack_store
from shedbook.store import Store
from tests.helpers import check_unshared, raises, seeded
from tests.keeping import BAD_COLUMNS, BAD_LINES, BAD_RULES, PlainStore, random_rule, random_told, state
from tests.stores import LINE, OTHER, SALE, VISIT, Case, aged, new_store

class NewStore(Case):
    def test_new(self):
        store = Store()
        self.assertEqual(state(store), (0, [], [], [], [], [], [], []))
        for kind in ("visit", "a"):
            self.fails(UnknownKind, store, "schema", kind)
        self.assertEqual(store.ask("of visit\nrows age"), [])
        self.assertEqual(store.ask("of visit\ngroups : count"), [])

    def test_stores_share_nothing(self):
        first, second = Store(), Store()
        first.set_schema("visit", VISIT)
        first.add_rule(("sum", "visit", "age", 10))
        first.add_rule(("keep", "visit", 30))
        first.tell(LINE)
        first.watch("w", "of visit\nrows age")
        first.backup("b")
        first.advance(50)
        self.assertEqual(state(second), state(Store()))

    def test_what_is_shown(self):
        store = new_store([("sum", "visit", "age", 10), ("keep", "visit", 30), ("hold", "bo", 99)], [OTHER, LINE, SALE], 50)
        self.assertEqual(store.now(), 50)
        self.assertEqual(store.rules(), [("hold", "bo", 99), ("keep", "visit", 30), ("sum", "visit", "age", 10)])
        self.assertEqual(store.lines(), [SALE, OTHER])
        self.assertEqual(store.kept(), [("visit", "age", 10, 2, "anna", 1, 47, 47, 47)])
        self.assertEqual(store.kinds(), ["sale", "visit"])
        self.assertEqual((store.schema("visit"), store.schema("sale")), (VISIT, []))

    def test_ascending(self):
        store = new_store()
        for kind in ("z", "b", "y", "a"):
            store.set_schema(kind, [])
        self.assertEqual(store.kinds(), ["a", "b", "sale", "visit", "y", "z"])
        for rule in (("sum", "z", "a", 1), ("forget", "b", 10), ("keep", "a", 10), ("forget", "b", 9), ("hold", "z", 1)):
            store.add_rule(rule)
        self.assertEqual(store.rules(), [("forget", "b", 9), ("forget", "b", 10), ("hold", "z", 1), ("keep", "a", 10),
                                         ("sum", "z", "a", 1)])
        for time in (100, 20, 3):
            store.tell((time, "sale", "anna", 0, ()))
        self.assertEqual([line[0] for line in store.lines()], [3, 20, 100])

    def test_nothing_is_shared(self):
        store = new_store([("sum", "visit", "age", 10), ("keep", "visit", 30)], [OTHER, LINE, SALE], 50)
        store.watch("w", "of sale\nrows cost")
        store.backup("b")
        store.tell((60, "sale", "anna", 0, ()))
        for find in (store.rules, store.lines, store.kept, store.kinds, lambda: store.schema("visit"), store.watched,
                     lambda: store.sums("visit", "age"), lambda: store.ask("of sale\nrows cost"), store.news,
                     lambda: store.news()[0][1], lambda: store.news()[0][2], store.backups,
                     lambda: store.backup_lines("b"), lambda: pack_store(store)):
            check_unshared(self, find)


class Advance(Case):
    def test_advance(self):
        store = new_store()
        for moment in (0, 1, 1, 5, 9999, 9999):
            self.assertIsNone(store.advance(moment))
            self.assertEqual(store.now(), moment)

    def test_past(self):
        store = new_store([], [LINE], 30)
        for moment in (29, 0, -1):
            self.fails(Past, store, "advance", moment)
        self.fails(Past, Store(), "advance", -1)

    def test_rules_of_age(self):
        rules = [("blur", "visit", "age", 10, 5), ("keep", "visit", 8)]
        for now, wanted in ((24, [aged(47)]), (25, [aged(40)]), (27, [aged(40)]), (28, []), (9999, [])):
            self.assertEqual(new_store(rules, [aged(47)], now).lines(), wanted)

    def test_lines_that_become_equal(self):
        store = new_store([("blur", "visit", "age", 10, 5)], [aged(47), aged(42), aged(39)])
        store.advance(24)
        self.assertEqual(store.lines(), [aged(39), aged(42), aged(47)])
        store.advance(25)
        self.assertEqual(store.lines(), [aged(30), aged(40)])
        self.assertIs(store.tell(aged(48)), False)
        self.assertEqual(store.lines(), [aged(30), aged(40)])

    def test_a_line_becomes_equal_to_one_that_stays(self):
        store = new_store([("blur", "visit", "age", 10, 5)], [aged(40), aged(47)], 25)
        self.assertEqual(store.lines(), [aged(40)])


class SetSchema(Case):
    def test_set_and_replace(self):
        store = Store()
        self.assertIsNone(store.set_schema("visit", VISIT))
        self.assertEqual(store.schema("visit"), VISIT)
        self.assertIsNone(store.set_schema("visit", []))
        self.assertEqual(store.schema("visit"), [])
        self.assertEqual(store.kinds(), ["visit"])

    def test_lines_keep_their_fields(self):
        store = new_store([], [LINE])
        store.set_schema("visit", [])
        self.assertEqual(store.lines(), [LINE])
        self.assertEqual(store.ask("of visit\nrows age town"), [(0, 0)])
        store.set_schema("visit", VISIT)
        self.assertEqual(store.ask("of visit\nrows age town"), [(47, "lund")])

    def test_invalid(self):
        store = new_store([], [LINE])
        for columns in BAD_COLUMNS + ([("age", "int", 0)] * 2, [("age", "int", 1000000)]):
            self.fails(InvalidSchema, store, "set_schema", "visit", list(columns))
        for kind in ("", "Visit", "a" * 13):
            self.fails(InvalidSchema, store, "set_schema", kind, [])

    def test_the_columns_can_be_changed(self):
        store = Store()
        columns = list(VISIT)
        store.set_schema("visit", columns)
        columns.clear()
        self.assertEqual(store.schema("visit"), VISIT)
        store.set_schema("sale", columns)
        columns.append(("age", "int", 0))
        self.assertEqual(store.schema("sale"), [])


class AddRule(Case):
    def test_invalid(self):
        store = new_store([("keep", "visit", 30)], [LINE])
        for rule in BAD_RULES + (("keep", "visit", 10000), ("must", "visit", 0), ("sum", "visit", "age", 1000)):
            self.fails(InvalidRule, store, "add_rule", rule)

    def test_duplicate_before_clash(self):
        rules = [("keep", "visit", 30), ("must", "visit", 5), ("blur", "visit", "age", 10, 5), ("sum", "visit", "age", 7),
                 ("forget", "anna", 5), ("hold", "anna", 9), ("erase", "visit", "town", 9)]
        store = new_store(rules, [LINE])
        for rule in rules:
            self.fails(Duplicate, store, "add_rule", rule)

    def test_clash(self):
        store = new_store([("keep", "visit", 30), ("must", "sale", 5), ("blur", "visit", "age", 10, 5),
                           ("sum", "visit", "age", 7)], [LINE])
        for rule in (("keep", "visit", 31), ("must", "visit", 31), ("keep", "sale", 4), ("must", "sale", 6),
                     ("blur", "visit", "age", 10, 6), ("blur", "visit", "age", 15, 5), ("sum", "visit", "age", 8)):
            self.fails(Clash, store, "add_rule", rule)
        for rule in (("must", "visit", 30), ("keep", "sale", 5), ("blur", "visit", "age", 20, 6),
                     ("sum", "visit", "cost", 8), ("blur", "visit", "town", 15, 5), ("sum", "sale", "age", 8)):
            self.assertIsNone(store.add_rule(rule))

    def test_invalid_before_duplicate_and_clash(self):
        """A rule that is none cannot be there, and would clash if its integers did not matter."""
        store = new_store([("keep", "visit", 30), ("sum", "visit", "age", 7)])
        self.fails(InvalidRule, store, "add_rule", ("keep", "visit", -1))
        self.fails(InvalidRule, store, "add_rule", ("sum", "visit", "age", 0))

    def test_it_is_applied(self):
        for rule, wanted in ((("keep", "visit", 10), []), (("keep", "visit", 11), [LINE]),
                             (("forget", "anna", 20), []), (("forget", "anna", 19), [LINE]),
                             (("erase", "visit", "age", 20), [LINE[:4] + ((("town", "lund"),),)]),
                             (("erase", "visit", "age", 19), [LINE]),
                             (("blur", "visit", "age", 10, 10), [LINE[:4] + ((("age", 40), ("town", "lund")),)]),
                             (("blur", "visit", "age", 10, 11), [LINE]),
                             (("must", "visit", 1), [LINE]), (("hold", "anna", 1), [LINE]),
                             (("sum", "visit", "age", 1), [LINE])):
            store = new_store([], [LINE], 30)
            self.assertIsNone(store.add_rule(rule))
            self.assertEqual(store.lines(), wanted, rule)

    def test_protection(self):
        for guard in (("must", "visit", 11), ("hold", "anna", 31)):
            for rule in (("keep", "visit", 11), ("forget", "anna", 99), ("erase", "visit", "age", 99),
                         ("blur", "visit", "age", 2, 0)):
                store = new_store([guard], [LINE], 30)
                store.add_rule(rule)
                self.assertEqual(store.lines(), [LINE])
                store.advance(31)
                self.assertNotEqual(store.lines(), [LINE])


class DropRule(Case):
    def test_not_found(self):
        store = new_store([("keep", "visit", 30)], [LINE])
        for rule in (("keep", "visit", 31), ("must", "visit", 30), ("keep", "sale", 30), ("keep",), ()):
            self.fails(NotFound, store, "drop_rule", rule)

    def test_drop(self):
        store = new_store([("keep", "visit", 30), ("forget", "anna", 5)])
        self.assertIsNone(store.drop_rule(("forget", "anna", 5)))
        self.assertEqual(store.rules(), [("keep", "visit", 30)])
        self.assertIsNone(store.drop_rule(("keep", "visit", 30)))
        self.assertEqual(store.rules(), [])
        self.fails(NotFound, store, "drop_rule", ("keep", "visit", 30))

    def test_lines_do_not_come_back(self):
        for rule in (("keep", "visit", 5), ("forget", "anna", 99), ("erase", "visit", "age", 99),
                     ("blur", "visit", "age", 10, 0)):
            store = new_store([rule], [LINE], 30)
            left = store.lines()
            self.assertNotEqual(left, [LINE])
            store.drop_rule(rule)
            self.assertEqual(store.lines(), left)
            store.advance(40)
            self.assertEqual(store.lines(), left)
            store.tell(LINE)
            self.assertIn(LINE, store.lines())

    def test_protection_ends(self):
        for guard in (("must", "visit", 30), ("hold", "anna", 99)):
            store = new_store([guard, ("keep", "visit", 30), ("forget", "anna", 20)], [LINE], 25)
            self.assertEqual(store.lines(), [LINE])
            store.drop_rule(guard)
            self.assertEqual(store.lines(), [])


class Tell(Case):
    def test_comes_or_stands_there(self):
        store = new_store()
        self.assertIs(store.tell(LINE), True)
        self.assertIs(store.tell(LINE), False)
        self.assertIs(store.tell(OTHER), True)
        self.assertIs(store.tell(LINE[:3] + (4,) + LINE[4:]), True)
        self.assertIs(store.tell(LINE), False)
        self.assertEqual(len(store.lines()), 3)

    def test_invalid_before_unknown_before_refused(self):
        store = new_store([("forget", "anna", 99), ("keep", "visit", 0)], [], 50)
        for line in BAD_LINES + ((10000, "nosuch", "anna", 0, ()), (20, "visit", "anna", -1, ())):
            self.fails(InvalidLine, store, "tell", line)
        self.fails(UnknownKind, store, "tell", (20, "nosuch", "anna", 0, ()))
        self.fails(UnknownKind, Store(), "tell", LINE)
        self.fails(Refused, store, "tell", LINE)
        self.fails(Refused, store, "tell", (20, "sale", "anna", 0, ()))
        self.fails(Refused, store, "tell", (50, "visit", "bo", 0, ()))
        self.assertIs(store.tell((51, "visit", "bo", 0, ())), True)

    def test_refused(self):
        for rule, now in ((("forget", "anna", 20), 0), (("forget", "anna", 20), 99), (("keep", "visit", 10), 30),
                          (("keep", "visit", 0), 20)):
            store = new_store([rule], [], now)
            self.fails(Refused, store, "tell", LINE)
            store.add_rule(("hold", "anna", now + 1))
            self.assertIs(store.tell(LINE), True)
        store = new_store([("forget", "anna", 19), ("keep", "visit", 11)], [], 30)
        self.assertIs(store.tell(LINE), True)

    def test_a_line_beyond_its_age_is_not_added_to_the_sums(self):
        store = new_store([("keep", "visit", 10), ("sum", "visit", "age", 10)], [], 30)
        self.fails(Refused, store, "tell", LINE)
        self.assertEqual(store.kept(), [])
        self.assertIs(store.tell(OTHER), True)
        store.advance(31)
        self.assertEqual(store.kept(), [("visit", "age", 10, 2, "bo", 1, 12, 12, 12)])

    def test_changed_lines(self):
        store = new_store([("erase", "visit", "town", 20), ("blur", "visit", "age", 10, 5)], [], 25)
        self.assertIs(store.tell(LINE), True)
        self.assertEqual(store.lines(), [aged(40)])
        for line in (LINE, aged(40), aged(41), aged(49), LINE[:4] + ((("age", 43), ("town", "a")),)):
            self.assertIs(store.tell(line), False)
            self.assertEqual(store.lines(), [aged(40)])
        self.assertIs(store.tell(aged(50)), True)
        self.assertIs(store.tell(aged(40, 3, 21)), True)

    def test_kinds_of_values(self):
        store = new_store([], [])
        self.assertIs(store.tell((9999, "visit", "z" * 12, 9999, tuple([(name, "a") for name in "abcdef"]))), True)
        self.assertIs(store.tell((0, "visit", "a", 0, (("age", -999999), ("town", 999999)))), True)


class Sums(Case):
    def test_not_found(self):
        store = new_store([("sum", "visit", "age", 10)], [LINE])
        for kind, field in (("visit", "town"), ("sale", "age"), ("age", "visit"), ("nosuch", "age")):
            self.fails(NotFound, store, "sums", kind, field)
        self.assertEqual(store.sums("visit", "age"), [(2, 1, 47, 47, 47)])

    def test_keep_and_sum(self):
        rules = [("keep", "visit", 10), ("sum", "visit", "age", 10)]
        lines = [aged(47), aged(-3, 4), aged(9, 0, 19), aged(1, 0, 20, "bo"), LINE[:3] + (9,) + ((("age", "old"),),)]
        store = new_store(rules, lines)
        before = [(1, 1, 9, 9, 9), (2, 3, 45, -3, 47)]
        self.assertEqual((store.kept(), store.sums("visit", "age")), ([], before))
        store.advance(29)
        self.assertEqual(store.kept(), [("visit", "age", 10, 1, "anna", 1, 9, 9, 9)])
        self.assertEqual(store.sums("visit", "age"), before)
        store.advance(30)
        self.assertEqual(store.lines(), [])
        self.assertEqual(store.kept(), [("visit", "age", 10, 1, "anna", 1, 9, 9, 9),
                                        ("visit", "age", 10, 2, "anna", 2, 44, -3, 47),
                                        ("visit", "age", 10, 2, "bo", 1, 1, 1, 1)])
        self.assertEqual(store.sums("visit", "age"), before)
        store.tell(aged(100, 0, 29))
        self.assertEqual(store.sums("visit", "age"), [before[0], (2, 4, 145, -3, 100)])

    def test_several_fields(self):
        line = (20, "visit", "anna", 0, (("age", 3), ("cost", 4), ("town", 5)))
        store = new_store([("keep", "visit", 10), ("sum", "visit", "age", 10), ("sum", "visit", "cost", 7),
                           ("sum", "sale", "town", 7)], [line], 30)
        self.assertEqual(store.kept(), [("visit", "age", 10, 2, "anna", 1, 3, 3, 3),
                                        ("visit", "cost", 7, 2, "anna", 1, 4, 4, 4)])

    def test_once_for_each_form(self):
        """47 and 42 expire as one form, and 39 as another one."""
        rules = [("keep", "visit", 10), ("sum", "visit", "age", 10)]
        lines = [aged(47), aged(42), aged(39)]
        store = new_store(rules + [("blur", "visit", "age", 10, 10)], lines, 30)
        self.assertEqual(store.kept(), [("visit", "age", 10, 2, "anna", 2, 70, 30, 40)])
        store = new_store(rules + [("blur", "visit", "age", 10, 11)], lines, 30)
        self.assertEqual(store.kept(), [("visit", "age", 10, 2, "anna", 3, 128, 39, 47)])
        store = new_store(rules + [("blur", "visit", "age", 10, 5)], lines, 25)
        store.advance(30)
        self.assertEqual(store.kept(), [("visit", "age", 10, 2, "anna", 2, 70, 30, 40)])

    def test_erased_fields_count_for_nothing(self):
        store = new_store([("keep", "visit", 10), ("sum", "visit", "age", 10), ("erase", "visit", "age", 19)],
                          [aged(5, 0, 19), aged(7, 0, 20)], 50)
        self.assertEqual(store.kept(), [("visit", "age", 10, 2, "anna", 1, 7, 7, 7)])

    def test_forgotten_lines_count_for_nothing(self):
        rules = [("sum", "visit", "age", 30), ("forget", "anna", 20), ("keep", "visit", 10)]
        store = new_store(rules, [aged(5), aged(7, 0, 21)], 50)
        self.assertEqual(store.kept(), [])
        store = new_store([rules[1], rules[2], ("hold", "anna", 40), rules[0]], [])
        for line in (aged(5), aged(7, 0, 21)):
            store.tell(line)
        store.advance(39)
        self.assertEqual(len(store.lines()), 2)
        store.advance(40)
        self.assertEqual((store.lines(), store.kept()), ([], []))

    def test_without_keep_nothing_is_kept(self):
        rules = [("sum", "visit", "age", 10), ("erase", "visit", "age", 0), ("keep", "sale", 0)]
        store = new_store(rules, [LINE, OTHER], 9999)
        self.assertEqual(store.kept(), [])
        self.assertEqual(store.sums("visit", "age"), [(2, 2, 59, 12, 47)])

    def test_protection(self):
        rules = [("keep", "visit", 10), ("sum", "visit", "age", 10)]
        for guard, last in ((("must", "visit", 10), 29), (("hold", "anna", 45), 44)):
            store = new_store([guard] + rules, [aged(47)], last)
            self.assertEqual((store.lines(), store.kept()), ([aged(47)], []))
            store.advance(last + 1)
            self.assertEqual((store.lines(), store.kept()), ([], [("visit", "age", 10, 2, "anna", 1, 47, 47, 47)]))

    def test_a_line_is_told_again_and_expires(self):
        """The held line stands as it was told beside its coarser form, and both expire as one."""
        rules = [("keep", "visit", 10), ("sum", "visit", "age", 10), ("blur", "visit", "age", 10, 5)]
        store = new_store(rules, [aged(47)], 25)
        store.add_rule(("hold", "anna", 40))
        self.assertIs(store.tell(aged(47)), True)
        self.assertIs(store.tell(aged(40)), False)
        self.assertEqual(store.lines(), [aged(40), aged(47)])
        store.advance(39)
        self.assertEqual((len(store.lines()), store.kept()), (2, []))
        store.advance(40)
        self.assertEqual((store.lines(), store.kept()), ([], [("visit", "age", 10, 2, "anna", 1, 40, 40, 40)]))
        self.fails(Refused, store, "tell", aged(47))

    def test_forms_that_expire_at_other_times_are_added_anew(self):
        store = new_store([("keep", "visit", 10), ("sum", "visit", "age", 10)], [aged(47)], 30)
        store.drop_rule(("keep", "visit", 10))
        self.assertIs(store.tell(aged(47)), True)
        store.add_rule(("keep", "visit", 5))
        self.assertEqual(store.kept(), [("visit", "age", 10, 2, "anna", 2, 94, 47, 47)])

    def test_kept_sums_go(self):
        row = ("visit", "age", 10, 2, "anna", 1, 47, 47, 47)
        rule, keep = ("sum", "visit", "age", 10), ("keep", "visit", 10)
        for going, wanted in ((("forget", "anna", 19), [row]), (("forget", "anna", 20), []), (("forget", "bo", 99), [row]),
                              (("erase", "visit", "age", 19), [row]), (("erase", "visit", "age", 20), []),
                              (("erase", "visit", "town", 99), [row]), (("must", "visit", 5), [row])):
            store = new_store([keep, rule], [LINE], 30)
            store.add_rule(going)
            self.assertEqual(store.kept(), wanted, going)
            store.drop_rule(going)
            self.assertEqual(store.kept(), wanted, going)

    def test_a_dropped_rule_takes_its_sums(self):
        rule = ("sum", "visit", "age", 10)
        store = new_store([("keep", "visit", 10), rule], [LINE, OTHER], 30)
        self.assertEqual(len(store.kept()), 1)
        store.drop_rule(rule)
        self.assertEqual(store.kept(), [])
        store.add_rule(rule)
        self.assertEqual(store.kept(), [])
        self.assertEqual(store.sums("visit", "age"), [(2, 1, 12, 12, 12)])
        store.advance(31)
        self.assertEqual(store.kept(), [("visit", "age", 10, 2, "bo", 1, 12, 12, 12)])

    def test_held_sums_go_when_the_hold_ends(self):
        """The line is old enough to expire before it is held and its subject forgotten."""
        for end in ("advance", "drop"):
            store = new_store([("keep", "visit", 10), ("sum", "visit", "age", 10)], [LINE], 30)
            store.add_rule(("hold", "anna", 50))
            store.add_rule(("forget", "anna", 20))
            self.assertEqual(len(store.kept()), 1)
            store.advance(49)
            self.assertEqual(len(store.kept()), 1)
            if end == "advance":
                store.advance(50)
            else:
                store.drop_rule(("hold", "anna", 50))
            self.assertEqual(store.kept(), [])


class ManySteps(Case):
    def test_small_steps(self):
        """Point 17: it does not matter whether a store is advanced at once or by many small steps."""
        rng = seeded(17)
        told_again = 0
        for _ in range(60):
            rules = some_rules(rng)
            lines = [random_told(rng, PlainStore()) for _ in range(8)]
            lines = [(rng.randint(0, 12),) + line[1:] for line in lines]
            once, often = ready(rules, lines), ready(rules, lines)
            end = rng.randint(1, 30)
            once.advance(end)
            for moment in range(1, end + 1):
                often.advance(moment)
                line = rng.choice(lines)
                try:
                    self.assertIs(often.tell(line), False)
                    told_again += 1
                except Refused:
                    pass
            self.assertEqual(once.lines(), often.lines())
            self.assertEqual(pack_store(once), pack_store(often))
        self.assertGreater(told_again, 200)


def some_rules(rng):
    """Return rules that do not clash, and no "sum" rule."""
    store = Store()
    for _ in range(rng.randint(1, 12)):
        rule = random_rule(rng, PlainStore())
        if rule[0] != "sum":
            try:
                store.add_rule(rule)
            except (Duplicate, Clash):
                pass
    return store.rules()


def ready(rules, lines):
    store = Store()
    for kind in ("sale", "refund", "visit"):
        store.set_schema(kind, [])
    for rule in rules:
        store.add_rule(rule)
    for line in lines:
        try:
            store.tell(line)
        except Refused:
            pass
    store.backup("b")
    return store


if __name__ == "__main__":
    unittest.main()
