"""Points 30, 56 and 66: answers and standing questions of a store, and its news."""

import unittest

from shedbook.errors import Duplicate, NotFound, Refused
from shedbook.images import pack_store
from shedbook.questions import BadQuestion
from shedbook.store import Store
from tests.asking import plain_answer, plain_text, random_question
from tests.helpers import raises, seeded
from tests.keeping import BAD_TEXTS, PlainStore, outcome, random_call, state
from tests.stores import LINE, OTHER, SALE, VISIT, Case, aged, new_store

AGES = "of visit\nrows age"
COUNTS = "of visit\ngroups subject : count"


class Asking(Case):
    def test_answers(self):
        store = new_store([], [LINE, OTHER, SALE])
        self.assertEqual(store.ask(AGES), [(12,), (47,)])
        self.assertEqual(store.ask("of visit\nrows age town\norder 0 down"), [(47, "lund"), (12, "none")])
        self.assertEqual(store.ask(COUNTS), [("anna", 1), ("bo", 1)])
        self.assertEqual(store.ask("pairs visit sale 0\nrows subject that.cost"), [("anna", 0)])

    def test_other_written_forms(self):
        store = new_store([], [LINE, OTHER])
        self.assertEqual(store.ask("  of   visit \n where ((age  above 12)) \nrows  age "), [(47,)])

    def test_a_kind_without_a_schema(self):
        store = new_store([], [LINE])
        self.assertEqual(store.ask("of nosuch\nrows age"), [])
        self.assertEqual(store.ask("pairs visit nosuch 10\nrows age"), [])
        self.assertEqual(store.ask("of nosuch\ngroups : count"), [])

    def test_bad_questions(self):
        store = new_store([], [LINE])
        for text in BAD_TEXTS:
            self.fails(BadQuestion, store, "ask", text)
            self.fails(BadQuestion, store, "watch", "w", text)
        try:
            store.ask("of visit\nrows is")
        except BadQuestion as error:
            self.assertEqual((error.line, error.column, error.reason), (2, 6, "reserved word"))

    def test_after_every_sort_of_call(self):
        store = new_store([], [aged(47), OTHER])
        text = "of visit\nrows age town"
        self.assertEqual(store.ask(text), [(12, "none"), (47, "none")])
        store.tell(aged(5, 9))
        self.assertEqual(store.ask(text), [(5, "none"), (12, "none"), (47, "none")])
        store.backup("b")
        store.set_schema("visit", [("age", "word", "old"), ("town", "int", 7)])
        self.assertEqual(store.ask(text), [("old", 7), ("old", 7), ("old", 7)])
        store.set_schema("visit", [("age", "int", 0)])
        self.assertEqual(store.ask(text), [(5, 0), (12, 0), (47, 0)])
        store.add_rule(("forget", "bo", 99))
        self.assertEqual(store.ask(text), [(5, 0), (47, 0)])
        store.add_rule(("blur", "visit", "age", 10, 5))
        self.assertEqual(store.ask(text), [(5, 0), (47, 0)])
        store.advance(25)
        self.assertEqual(store.ask(text), [(0, 0), (40, 0)])
        store.add_rule(("keep", "visit", 6))
        store.add_rule(("hold", "anna", 40))
        store.advance(30)
        self.assertEqual(store.ask(text), [(0, 0), (40, 0)])
        store.drop_rule(("hold", "anna", 40))
        self.assertEqual(store.ask(text), [])
        store.drop_rule(("keep", "visit", 6))
        self.assertEqual(store.restore("b"), 2)
        self.assertEqual(store.ask(text), [(0, 0), (40, 0)])
        store.drop_backup("b")
        self.assertEqual(store.ask(text), [(0, 0), (40, 0)])

    def test_random_questions(self):
        rng = seeded(30)
        rows = 0
        for _ in range(25):
            store, plain = Store(), PlainStore()
            for kind in ("sale", "refund", "visit"):
                store.set_schema(kind, [("cost", "int", 1)])
                plain.set_schema(kind, [("cost", "int", 1)])
            questions = [random_question(rng) for _ in range(4)]
            for _ in range(40):
                name, given, plainly = random_call(rng, plain)
                outcome(getattr(store, name), *given)
                outcome(getattr(plain, name), *plainly)
                for question in questions:
                    found = store.ask(plain_text(question))
                    self.assertEqual(found, plain_answer(question, plain.schemas, plain.lines))
                    rows += len(found)
        self.assertGreater(rows, 1000)


class Watching(Case):
    def test_watched(self):
        store = new_store([], [LINE])
        self.assertEqual(store.watched(), [])
        self.assertIsNone(store.watch("w", "  of  visit \nrows age "))
        store.watch("a", COUNTS)
        self.assertEqual(store.watched(), [("a", COUNTS), ("w", AGES)])
        self.assertIsNone(store.unwatch("w"))
        self.assertEqual(store.watched(), [("a", COUNTS)])

    def test_bad_question_before_duplicate(self):
        store = new_store([], [LINE])
        store.watch("w", AGES)
        self.fails(BadQuestion, store, "watch", "w", "of visit")
        self.fails(Duplicate, store, "watch", "w", COUNTS)
        self.fails(Duplicate, store, "watch", "w", AGES)
        self.assertEqual(store.watched(), [("w", AGES)])

    def test_not_found(self):
        store = new_store([], [LINE])
        store.watch("w", AGES)
        for name in ("v", "ww", "x"):
            self.fails(NotFound, store, "unwatch", name)
        store.unwatch("w")
        self.fails(NotFound, store, "unwatch", "w")

    def test_a_name_that_comes_again(self):
        store = new_store([], [LINE])
        store.watch("w", AGES)
        store.unwatch("w")
        store.tell(OTHER)
        store.watch("w", AGES)
        self.assertEqual(store.news(), [])
        store.tell(aged(5))
        self.assertEqual(store.news(), [("w", [(5,)], [])])


class News(Case):
    def setUp(self):
        self.store = new_store([], [aged(47)])
        self.store.backup("b")
        self.store.watch("ages", AGES)
        self.store.watch("counts", COUNTS)
        self.store.watch("sales", "of sale\nrows cost")

    def news(self, *wanted):
        self.assertEqual(self.store.news(), list(wanted))
        self.assertEqual(self.store.news(), list(wanted))

    def test_at_first(self):
        self.assertEqual(Store().news(), [])
        self.news()

    def test_tell(self):
        self.store.tell(aged(12))
        self.news(("ages", [(12,)], []), ("counts", [("anna", 2)], [("anna", 1)]))
        self.store.tell(OTHER)
        self.news(("ages", [(12,)], []), ("counts", [("bo", 1)], []))
        self.store.tell(OTHER)
        self.news()

    def test_advance(self):
        self.store.add_rule(("blur", "visit", "age", 10, 5))
        self.news()
        self.store.advance(25)
        self.news(("ages", [(40,)], [(47,)]))
        self.store.advance(25)
        self.news()

    def test_set_schema(self):
        self.store.set_schema("visit", [("age", "word", "x")])
        self.news(("ages", [("x",)], [(47,)]))
        self.store.set_schema("sale", [("age", "word", "x")])
        self.news()

    def test_rules(self):
        self.store.add_rule(("forget", "anna", 20))
        self.news(("ages", [], [(47,)]), ("counts", [], [("anna", 1)]))
        self.store.drop_rule(("forget", "anna", 20))
        self.news()
        self.store.add_rule(("hold", "anna", 9))
        self.store.tell(aged(5))
        self.news(("ages", [(5,)], []), ("counts", [("anna", 1)], []))
        self.store.add_rule(("forget", "anna", 20))
        self.news()
        self.store.drop_rule(("hold", "anna", 9))
        self.news(("ages", [], [(5,)]), ("counts", [], [("anna", 1)]))

    def test_restore(self):
        self.store.tell(OTHER)
        self.store.add_rule(("keep", "visit", 0))
        self.store.advance(50)
        self.store.drop_rule(("keep", "visit", 0))
        self.news()
        self.store.restore("b")
        self.news(("ages", [(47,)], []), ("counts", [("anna", 1)], []))
        self.store.restore("b")
        self.news()

    def test_watch(self):
        self.store.tell(OTHER)
        self.store.watch("x", AGES)
        self.news()

    def test_calls_that_do_not_refresh(self):
        self.store.tell(OTHER)
        news = self.store.news()
        self.assertEqual(len(news), 2)
        self.store.add_rule(("sum", "visit", "age", 10))
        self.news()
        self.store.tell(aged(30))
        news = self.store.news()
        for call in (lambda: self.store.backup("c"), lambda: self.store.drop_backup("c"), lambda: self.store.ask(AGES),
                     lambda: self.store.sums("visit", "age"), lambda: self.store.unwatch("ages"), self.store.lines,
                     lambda: self.store.backup_lines("b"), lambda: pack_store(self.store)):
            call()
            self.assertEqual(self.store.news(), news)

    def test_calls_that_raise(self):
        self.store.add_rule(("forget", "cy", 99))
        self.store.tell(OTHER)
        news = self.store.news()
        self.assertEqual(len(news), 2)
        for name, given in (("advance", (-1,)), ("set_schema", ("visit", [("Age", "int", 0)])),
                            ("add_rule", (("keep",),)), ("add_rule", (("forget", "cy", 99),)),
                            ("drop_rule", (("keep", "a", 1),)), ("tell", ((1, "visit", "cy", 0, ()),)),
                            ("tell", ((1, "nosuch", "cy", 0, ()),)), ("restore", ("x",)), ("watch", ("y", "of")),
                            ("watch", ("ages", AGES)), ("unwatch", ("x",)), ("backup", ("b",)), ("ask", ("of",))):
            self.assertRaises(ValueError, getattr(self.store, name), *given)
            self.assertEqual(self.store.news(), news)

    def test_only_what_stands(self):
        """A line that is told in another form, or refused, brings the news of what stands."""
        self.store.add_rule(("erase", "visit", "age", 20))
        self.news(("ages", [(0,)], [(47,)]))
        self.store.tell(aged(99, 7))
        self.news(("ages", [(0,)], []), ("counts", [("anna", 2)], [("anna", 1)]))
        self.store.add_rule(("forget", "bo", 99))
        self.assertTrue(raises(Refused, self.store.tell, OTHER))
        self.news()

    def test_news_together(self):
        """Point 57: what all news tell together is the difference of the answers."""
        rng = seeded(57)
        for _ in range(15):
            store, plain = Store(), PlainStore()
            for made in (store, plain):
                for kind in ("sale", "refund", "visit"):
                    made.set_schema(kind, VISIT)
            store.watch("w", "of sale\nrows time subject cost")
            balance = {}
            for _ in range(60):
                name, given, plainly = random_call(rng, plain)
                if given == ("w",):
                    continue
                before = state(store)
                done = outcome(getattr(store, name), *given)
                outcome(getattr(plain, name), *plainly)
                refreshing = name in "advance set_schema add_rule drop_rule tell restore watch".split()
                if done[0] == "raised" or not refreshing:
                    self.assertEqual(store.news(), before[6])
                    continue
                for word, came, went in store.news():
                    if word == "w":
                        for row in came:
                            balance[row] = balance.get(row, 0) + 1
                        for row in went:
                            balance[row] = balance.get(row, 0) - 1
                rows = store.ask("of sale\nrows time subject cost")
                self.assertEqual({row: many for row, many in balance.items() if many},
                                 {row: rows.count(row) for row in rows})


if __name__ == "__main__":
    unittest.main()
