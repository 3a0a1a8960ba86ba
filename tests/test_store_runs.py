"""Points 10, 11, 17, 30, 56 and 60 to 68 over whole stores: random calls, compared with a plain store."""

import collections
import unittest

from shedbook.images import pack_store, unpack_store
from shedbook.questions import read_question
from shedbook.store import Store
from tests.asking import KINDS, plain_answer, plain_text
from tests.fates import is_kept_safe
from tests.helpers import seeded
from tests.keeping import PlainStore, outcome, plain_image, plain_state, random_call, state

QUESTIONS = ("of sale\nrows time subject cost town", "pairs sale visit 5\nwhere cost is that.cost\ngroups subject : count",
             "chains refund sale 9\nrows time that.time", "of visit\nwhere subject is \"ann\"\ngroups by 4 : sum cost")


class Runs(unittest.TestCase):
    def check_protected(self, before, after):
        """Check that no line went that is protected both before and after a call."""
        (early, rules), (late, others) = before[:2], after[:2]
        for line in before[2]:
            if is_kept_safe(rules, early, line) and is_kept_safe(others, late, line):
                self.assertIn(line, after[2])
                self.safe += 1

    def test_random_calls(self):
        """Every call does what the plain store does, and an unpacked store goes on alike."""
        rng = seeded(64)
        self.safe = 0
        seen = collections.Counter()
        for _ in range(60):
            store, plain = Store(), PlainStore()
            twin = unpack_store(pack_store(store))
            first = first_calls(rng) if rng.random() < 0.9 else []
            for k in range(80):
                name, given, plainly = first[k] if k < len(first) else random_call(rng, plain)
                before = state(store)
                asked = read_question(rng.choice(QUESTIONS))
                done = outcome(getattr(store, name), *given)
                self.assertEqual(done, outcome(getattr(plain, name), *plainly), (name, given))
                self.assertEqual(state(store), plain_state(plain), (name, given))
                self.assertEqual(pack_store(store), plain_image(plain))
                self.assertEqual(outcome(getattr(twin, name), *given), done)
                self.assertEqual(pack_store(twin), pack_store(store))
                if done[0] == "raised":
                    self.assertEqual(state(store), before)
                self.check_protected(before, state(store))
                self.assertEqual(store.ask(plain_text(asked)), plain_answer(asked, plain.schemas, plain.lines))
                seen[(name, done[1] if done[0] == "raised" else "")] += 1
                if rng.random() < 0.1:
                    twin = unpack_store(pack_store(store))
                    self.assertEqual(state(twin), before_news(state(store)))
                elif name not in ("sums", "ask", "schema", "backup_lines"):
                    seen["news"] += len(store.news())
                seen["kept"] += len(store.kept())
                seen["backed"] += sum([len(store.backup_lines(name)) for name in store.backups()])
        for call in [("advance", ""), ("advance", "Past"), ("set_schema", ""), ("set_schema", "InvalidSchema"),
                     ("add_rule", ""), ("add_rule", "InvalidRule"), ("add_rule", "Duplicate"), ("add_rule", "Clash"),
                     ("drop_rule", ""), ("drop_rule", "NotFound"), ("tell", ""), ("tell", "InvalidLine"),
                     ("tell", "UnknownKind"), ("tell", "Refused"), ("sums", ""), ("sums", "NotFound"), ("ask", ""),
                     ("ask", "BadQuestion"), ("watch", ""), ("watch", "BadQuestion"), ("watch", "Duplicate"),
                     ("unwatch", ""), ("unwatch", "NotFound"), ("backup", ""), ("backup", "Duplicate"),
                     ("restore", ""), ("restore", "NotFound"), ("drop_backup", ""), ("drop_backup", "NotFound"),
                     ("backup_lines", ""), ("backup_lines", "NotFound"), ("schema", ""), ("schema", "UnknownKind")]:
            self.assertGreater(seen[call], 1, (call, seen))
        self.assertGreater(self.safe, 1000)
        for word in ("news", "kept", "backed"):
            self.assertGreater(seen[word], 300, seen)


def first_calls(rng):
    """Return calls that most stores begin with: without them little would come and expire."""
    calls = [("set_schema", (kind, [("cost", "int", 1), ("town", "word", "a")])) for kind in KINDS]
    for kind in KINDS:
        calls.append(("add_rule", (("keep", kind, rng.randint(2, 9)),)))
        calls.append(("add_rule", (("sum", kind, "cost", rng.randint(1, 6)),)))
    calls = [(name, given, given) for name, given in calls]
    for word, text in (("a", "of sale\nrows time cost"), ("b", "of visit\ngroups subject : count sum cost")):
        calls.append(("watch", (word, text), (word, read_question(text))))
    return calls


def before_news(shown):
    """Return what a store shows, with empty news."""
    return shown[:6] + ([],) + shown[7:]


if __name__ == "__main__":
    unittest.main()
