"""Points 76 and 77: discreet questions, grants and the ledger."""

import itertools
import unittest

from shedbook.desk import Desk, is_discreet
from shedbook.disks import Vault
from shedbook.errors import Forbidden, NotFound, Refused
from shedbook.images import pack_store
from shedbook.questions import BadQuestion, read_question
from shedbook.store import Store
from tests.asking import plain_text, random_question
from tests.helpers import check_unshared, raises, seeded
from tests.keeping import BAD_TEXTS, state
from tests.stores import LINE, OTHER, SALE, VISIT

ROWS = "of visit\nrows age"
COUNTS = "of visit\ngroups town : count sum age"
PAIRS = "pairs visit sale 5\ngroups : count"


def new_desk():
    desk = Desk()
    store = desk.vault().store()
    store.set_schema("visit", VISIT)
    store.set_schema("sale", [("cost", "int", 0)])
    for line in (LINE, OTHER, SALE):
        store.tell(line)
    return desk


class Discreet(unittest.TestCase):
    def check(self, text, wanted):
        self.assertIs(is_discreet(read_question(text)), wanted, text)

    def test_rows(self):
        self.check("of visit\nrows age", False)
        self.check("of visit\nrows time", False)

    def test_groups(self):
        for text in ("of visit\ngroups : count", "of visit\ngroups by 10 : count", "of visit\ngroups town time : sum age",
                     "pairs visit sale 5\nwhere age is that.cost\ngroups that.town : unlike that.time\norder 1 up\nfirst 3"):
            self.check(text, True)

    def test_names_that_are_not_discreet(self):
        for word in ("subject", "serial", "that.subject", "that.serial"):
            self.check("pairs visit sale 5\ngroups " + word + " : count", False)
            self.check("pairs visit sale 5\ngroups town age " + word + " : count", False)
            for told in ("sum", "least", "greatest", "unlike"):
                self.check("pairs visit sale 5\ngroups : count " + told + " " + word, False)
            for test in (word + " is 3", "3 is " + word, word + " above \"a\"", "not " + word + " is 1",
                         "age is 1 or (age is 2 and not (age is 3 or " + word + " is 4))", "age is " + word):
                self.check("pairs visit sale 5\nwhere " + test + "\ngroups : count", False)

    def test_values_and_kinds_of_these_words(self):
        for word in ("subject", "serial"):
            self.check("of visit\nwhere town is \"" + word + "\"\ngroups : count", True)
            self.check("of " + word + "\ngroups : count", True)
            self.check("pairs visit " + word + " 5\ngroups : count", True)

    def test_random(self):
        rng = seeded(76)
        seen = [0, 0]
        for _ in range(1500):
            question = random_question(rng)
            lines = plain_text(question).split("\n")
            words = " ".join([line for line in lines if line.split(" ")[0] in ("where", "groups")])
            for mark in "()":
                words = words.replace(mark, " ")
            words = words.replace("that.", "").split(" ")
            wanted = question[2][0] == "groups" and "subject" not in words and "serial" not in words
            self.assertIs(is_discreet(question), wanted, question)
            seen[wanted] += 1
        self.assertGreater(min(seen), 100)


class Grants(unittest.TestCase):
    def test_new(self):
        desk = Desk()
        self.assertEqual((desk.grants(), desk.ledger()), ([], []))
        self.assertIs(desk.vault().__class__, Vault)
        self.assertIs(desk.vault(), desk.vault())
        self.assertEqual(state(desk.vault().store()), state(Store()))

    def test_set_replace_revoke(self):
        desk = Desk()
        self.assertIsNone(desk.grant("eva", "visit", "sums"))
        self.assertIsNone(desk.grant("eva", "sale", "full"))
        self.assertIsNone(desk.grant("dan", "visit", "full"))
        self.assertEqual(desk.grants(), [("dan", "visit", "full"), ("eva", "sale", "full"), ("eva", "visit", "sums")])
        self.assertIsNone(desk.grant("eva", "visit", "full"))
        self.assertEqual(desk.grants(), [("dan", "visit", "full"), ("eva", "sale", "full"), ("eva", "visit", "full")])
        self.assertIsNone(desk.revoke("eva", "visit"))
        self.assertEqual(desk.grants(), [("dan", "visit", "full"), ("eva", "sale", "full")])

    def test_refused(self):
        desk = Desk()
        desk.grant("eva", "visit", "sums")
        for level in ("", "none", "Full", "sum", "full "):
            for kind in ("visit", "sale"):
                self.assertTrue(raises(Refused, desk.grant, "eva", kind, level))
                self.assertEqual(desk.grants(), [("eva", "visit", "sums")])

    def test_not_found(self):
        desk = Desk()
        desk.grant("eva", "visit", "sums")
        for asker, kind in (("eva", "sale"), ("dan", "visit"), ("visit", "eva")):
            self.assertTrue(raises(NotFound, desk.revoke, asker, kind))
        desk.revoke("eva", "visit")
        self.assertTrue(raises(NotFound, desk.revoke, "eva", "visit"))

    def test_nothing_is_shared(self):
        desk = new_desk()
        desk.grant("eva", "visit", "full")
        desk.ask("eva", ROWS)
        for find in (desk.grants, desk.ledger):
            check_unshared(self, find)
        desk.ask("eva", ROWS).clear()
        self.assertEqual(desk.ask("eva", ROWS), [(12,), (47,)])
        self.assertEqual((Desk().grants(), Desk().ledger()), ([], []))


class Asking(unittest.TestCase):
    def check(self, desk, asker, text, wanted):
        """Check whether an asker may ask, and what asking does then."""
        before, image = desk.ledger(), pack_store(desk.vault().store())
        self.assertIs(desk.may_ask(asker, text), wanted, (asker, text))
        self.assertEqual(desk.ledger(), before)
        if wanted:
            self.assertEqual(desk.ask(asker, text), desk.vault().store().ask(text))
        else:
            self.assertTrue(raises(Forbidden, desk.ask, asker, text))
        self.assertEqual(desk.ledger(), before + [(desk.vault().store().now(), asker, text, wanted)])
        self.assertEqual(pack_store(desk.vault().store()), image)

    def test_one_kind(self):
        desk = new_desk()
        for text in (ROWS, COUNTS):
            self.check(desk, "eva", text, False)
        desk.grant("eva", "visit", "sums")
        self.check(desk, "eva", ROWS, False)
        self.check(desk, "eva", COUNTS, True)
        self.check(desk, "eva", "of visit\ngroups subject : count", False)
        self.check(desk, "dan", COUNTS, False)
        desk.grant("eva", "visit", "full")
        self.check(desk, "eva", ROWS, True)
        self.check(desk, "eva", COUNTS, True)
        self.check(desk, "eva", "of visit\ngroups subject : count", True)
        self.check(desk, "eva", "of sale\nrows cost", False)
        desk.revoke("eva", "visit")
        self.check(desk, "eva", COUNTS, False)

    def test_several_kinds(self):
        shown = "pairs visit sale 5\nrows subject"
        for visit, sale in itertools.product(("", "sums", "full"), repeat=2):
            desk = new_desk()
            for kind, level in (("visit", visit), ("sale", sale)):
                if level:
                    desk.grant("eva", kind, level)
            self.check(desk, "eva", PAIRS, visit != "" and sale != "")
            self.check(desk, "eva", shown, (visit, sale) == ("full", "full"))
            self.check(desk, "eva", "pairs sale visit 5\nrows cost", (visit, sale) == ("full", "full"))
            self.check(desk, "eva", "pairs sale sale 5\nrows cost", sale == "full")

    def test_chains(self):
        text, discreet = "chains visit sale other 9\nrows age", "chains visit sale other 9\ngroups : count"
        for missing in ("visit", "sale", "other", ""):
            desk = new_desk()
            for kind in ("visit", "sale", "other"):
                if kind != missing:
                    desk.grant("eva", kind, "full")
            self.check(desk, "eva", text, missing == "")
            self.check(desk, "eva", discreet, missing == "")
            if missing != "":
                desk.grant("eva", missing, "sums")
                self.check(desk, "eva", text, False)
                self.check(desk, "eva", discreet, True)

    def test_answers(self):
        desk = new_desk()
        desk.grant("eva", "visit", "full")
        self.assertEqual(desk.ask("eva", ROWS), [(12,), (47,)])
        self.assertEqual(desk.ask("eva", COUNTS), [("lund", 1, 47), ("none", 1, 12)])
        desk.vault().store().add_rule(("forget", "anna", 99))
        self.assertEqual(desk.ask("eva", ROWS), [(12,)])
        desk.grant("eva", "nosuch", "sums")
        self.assertEqual(desk.ask("eva", "of nosuch\ngroups : count"), [])

    def test_bad_questions(self):
        desk = new_desk()
        desk.grant("eva", "sale", "full")
        for text in BAD_TEXTS:
            for asker in ("eva", "dan"):
                self.assertTrue(raises(BadQuestion, desk.ask, asker, text))
                self.assertTrue(raises(BadQuestion, desk.may_ask, asker, text))
                self.assertEqual(desk.ledger(), [])


class Ledger(unittest.TestCase):
    def test_entries(self):
        desk = new_desk()
        desk.grant("eva", "visit", "sums")
        desk.ask("eva", "  of visit \n groups   town:count  sum age ")
        desk.vault().store().advance(7)
        self.assertTrue(raises(Forbidden, desk.ask, "dan", "of visit\nwhere ((age is 1))\nrows age"))
        desk.vault().store().advance(9)
        self.assertTrue(raises(BadQuestion, desk.ask, "eva", "of visit"))
        desk.ask("eva", COUNTS)
        wanted = [(0, "eva", COUNTS, True), (7, "dan", "of visit\nwhere age is 1\nrows age", False), (9, "eva", COUNTS, True)]
        self.assertEqual(desk.ledger(), wanted)
        desk.may_ask("eva", ROWS)
        desk.revoke("eva", "visit")
        self.assertEqual(desk.ledger(), wanted)

    def test_no_rule_changes_it(self):
        desk = new_desk()
        desk.grant("anna", "visit", "full")
        desk.ask("anna", ROWS)
        store = desk.vault().store()
        for rule in (("forget", "anna", 9999), ("keep", "visit", 0), ("erase", "visit", "age", 9999)):
            store.add_rule(rule)
        store.advance(9999)
        self.assertEqual(desk.ledger(), [(0, "anna", ROWS, True)])
        self.assertEqual(desk.grants(), [("anna", "visit", "full")])

    def test_a_fall_changes_neither_grants_nor_ledger(self):
        desk = new_desk()
        desk.vault().save()
        image = pack_store(desk.vault().store())
        desk.grant("eva", "visit", "full")
        desk.vault().store().advance(5)
        desk.ask("eva", ROWS)
        grants, ledger, vault = desk.grants(), desk.ledger(), desk.vault()
        self.assertEqual(ledger, [(5, "eva", ROWS, True)])
        vault.fall()
        self.assertIs(desk.vault(), vault)
        self.assertEqual((desk.grants(), desk.ledger()), (grants, ledger))
        self.assertEqual(pack_store(desk.vault().store()), image)
        self.assertEqual(desk.ask("eva", ROWS), [(12,), (47,)])
        self.assertEqual(desk.ledger(), ledger + [(0, "eva", ROWS, True)])

    def test_they_are_no_part_of_the_image(self):
        desk, other = new_desk(), new_desk()
        desk.grant("eva", "visit", "full")
        desk.ask("eva", ROWS)
        self.assertEqual(pack_store(desk.vault().store()), pack_store(other.vault().store()))


if __name__ == "__main__":
    unittest.main()
