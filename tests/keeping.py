"""A plain store by another way than the program, random calls, and how to compare a store with it."""

from shedbook.errors import ShedError
from tests import packing
from tests.asking import (KINDS, loose_text, plain_answer, plain_order, plain_row_key, plain_text,
                          random_field_value, random_question)
from tests.fates import expected_fate, expected_going, expected_in_backup

NAMES = ("cost", "town")
# One subject has the name of a kind.
SUBJECTS = ("ann", "bo", "sale")
WORDS = ("a", "b", "c", "d")
BAD_TEXTS = ("", "of sale", "of sale\nrows", "rows cost", "of sale\nrows cost\nfirst 0")
BAD_LINES = ((-1, "sale", "ann", 0, ()), (0, "Sale", "ann", 0, ()), (0, "sale", "ann", 10000, ()),
             (0, "sale", "ann", 0, (("b", 1), ("a", 1))), (0, "nosuch", "ann", 0, (("a", 1000000),)))
BAD_RULES = ((), ("keep", "sale"), ("keep", "sale", -1), ("lose", "sale", 1), ("blur", "sale", "cost", 1, 0))
BAD_COLUMNS = ([("cost", "int", "a")], [("b", "int", 0), ("a", "int", 0)], [("cost", "real", 0)])


class Wrong(Exception):
    """A call of the plain store raises the error with this name."""


class PlainStore:
    """Points 63 to 66 without index, kept answers or kept totals: each answer is found anew."""

    def __init__(self):
        self.moment = 0
        self.schemas = {}
        self.rules = []
        self.lines = []
        self.numbers = {}
        self.asked = {}
        self.latest = {}
        self.backups = {}
        self.told = []

    def kept(self):
        return [key + (len(found), sum(found), min(found), max(found)) for key, found in sorted(self.numbers.items())]

    def settle(self):
        fates = [expected_fate(self.rules, self.moment, line) for line in self.lines]
        self.lines = plain_order([left for left, _ in fates if left is not None])
        for form in {gone for _, gone in fates if gone is not None}:
            for rule in self.rules:
                number = dict(form[4]).get(rule[2]) if rule[:2] == ("sum", form[1]) else None
                if isinstance(number, int):
                    key = rule[1:] + (form[0] // rule[3], form[2])
                    self.numbers[key] = self.numbers.get(key, []) + [number]
        for key in list(self.numbers):
            if expected_going(self.rules, self.moment, key):
                del self.numbers[key]
        for name in self.backups:
            left = [expected_in_backup(self.rules, self.moment, line) for line in self.backups[name]]
            self.backups[name] = plain_order([line for line in left if line is not None])

    def refresh(self):
        self.told = []
        for name in sorted(self.asked):
            old, new = self.latest[name], plain_answer(self.asked[name], self.schemas, self.lines)
            self.latest[name] = new
            came, went = list(new), list(old)
            for row in old:
                if row in came:
                    came.remove(row)
            for row in new:
                if row in went:
                    went.remove(row)
            if came or went:
                self.told.append((name, sorted(came, key=plain_row_key), sorted(went, key=plain_row_key)))

    def done(self):
        self.settle()
        self.refresh()

    def advance(self, moment):
        if moment < self.moment:
            raise Wrong("Past")
        self.moment = moment
        self.done()

    def set_schema(self, kind, columns):
        if columns in BAD_COLUMNS:
            raise Wrong("InvalidSchema")
        self.schemas[kind] = columns
        self.done()

    def add_rule(self, rule):
        if rule in BAD_RULES:
            raise Wrong("InvalidRule")
        if rule in self.rules:
            raise Wrong("Duplicate")
        if [other for other in self.rules if expected_clash(rule, other)]:
            raise Wrong("Clash")
        self.rules = sorted(self.rules + [rule])
        self.done()

    def drop_rule(self, rule):
        if rule not in self.rules:
            raise Wrong("NotFound")
        self.rules.remove(rule)
        self.done()

    def put(self, line):
        left = expected_fate(self.rules, self.moment, line)[0]
        came = left is not None and left not in self.lines
        if came:
            self.lines = plain_order(self.lines + [left])
        return left, came

    def tell(self, line):
        if line in BAD_LINES:
            raise Wrong("InvalidLine")
        if line[1] not in self.schemas:
            raise Wrong("UnknownKind")
        left, came = self.put(line)
        if left is None:
            raise Wrong("Refused")
        self.done()
        return came

    def sums(self, kind, field):
        rules = [rule for rule in self.rules if rule[:3] == ("sum", kind, field)]
        if not rules:
            raise Wrong("NotFound")
        width = rules[0][3]
        numbers = {}
        for key, found in self.numbers.items():
            if key[:3] == rules[0][1:]:
                numbers[key[3]] = numbers.get(key[3], []) + found
        for line in self.lines:
            number = dict(line[4]).get(field)
            if line[1] == kind and isinstance(number, int):
                numbers[line[0] // width] = numbers.get(line[0] // width, []) + [number]
        return [(window, len(found), sum(found), min(found), max(found)) for window, found in sorted(numbers.items())]

    def ask(self, question):
        if question is None:
            raise Wrong("BadQuestion")
        return plain_answer(question, self.schemas, self.lines)

    def watch(self, name, question):
        if question is None:
            raise Wrong("BadQuestion")
        if name in self.asked:
            raise Wrong("Duplicate")
        self.asked[name] = question
        self.latest[name] = plain_answer(question, self.schemas, self.lines)
        self.refresh()

    def unwatch(self, name):
        if name not in self.asked:
            raise Wrong("NotFound")
        del self.asked[name]

    def backup(self, name):
        if name in self.backups:
            raise Wrong("Duplicate")
        self.backups[name] = list(self.lines)
        self.settle()
        return len(self.lines)

    def restore(self, name):
        came = len([line for line in self.backup_lines(name) if self.put(line)[1]])
        self.done()
        return came

    def drop_backup(self, name):
        self.backup_lines(name)
        del self.backups[name]

    def backup_lines(self, name):
        if name not in self.backups:
            raise Wrong("NotFound")
        return list(self.backups[name])

    def schema(self, kind):
        if kind not in self.schemas:
            raise Wrong("UnknownKind")
        return self.schemas[kind]


def expected_clash(first, second):
    """Tell by point 13 whether two different rules clash."""
    firsts = sorted([first[0], second[0]])
    if first[1] != second[1]:
        return False
    if firsts in (["keep", "keep"], ["must", "must"]):
        return True
    if firsts == ["keep", "must"]:
        return dict([first[::2], second[::2]])["keep"] < dict([first[::2], second[::2]])["must"]
    if firsts == ["sum", "sum"]:
        return first[2] == second[2]
    if firsts == ["blur", "blur"] and first[2] == second[2]:
        low, high = sorted([first[3], second[3]])
        return low == high or high % low != 0
    return False


# Random calls: (method, arguments of the program, arguments of the plain store).

def random_told(rng, plain):
    if plain.lines and rng.random() < 0.15:
        return rng.choice(plain.lines)
    fields = tuple([(name, random_field_value(rng)) for name in NAMES if rng.random() < 0.7])
    time = max(0, plain.moment + rng.randint(-8, 3))
    return (time, rng.choice(KINDS), rng.choice(SUBJECTS), rng.randint(0, 1), fields)


def random_rule(rng, plain):
    kind, subject, name = rng.choice(KINDS), rng.choice(SUBJECTS), rng.choice(NAMES)
    moment = plain.moment
    return rng.choice([
        ("keep", kind, rng.randint(0, 12)),
        ("keep", kind, rng.randint(3, 12)),
        ("must", kind, rng.randint(1, 5)),
        ("blur", kind, name, rng.choice([2, 4]), rng.randint(0, 8)),
        ("hold", subject, moment + rng.randint(1, 6)),
        ("forget", subject, max(0, moment + rng.randint(-6, 3))),
        ("erase", kind, name, max(0, moment + rng.randint(-6, 3))),
        ("sum", kind, name, rng.randint(1, 6)),
        ("sum", kind, "cost", rng.randint(1, 6)),
    ])


def random_columns(rng):
    columns = [(name, "int", rng.randint(-2, 2)) if rng.random() < 0.6 else (name, "word", rng.choice("ab"))
               for name in NAMES if rng.random() < 0.8]
    return rng.choice([columns, columns, columns, columns, columns, rng.choice(BAD_COLUMNS)])


def random_asked(rng):
    """Return a text and the question that it reads as, or None."""
    if rng.random() < 0.1:
        return rng.choice(BAD_TEXTS), None
    question = random_question(rng)
    return rng.choice([plain_text(question), loose_text(rng, question)]), question


def random_call(rng, plain):
    word = rng.choice(WORDS)
    name = rng.choice(["advance"] * 3 + ["set_schema"] + ["add_rule"] * 3 + ["drop_rule"] + ["tell"] * 8
                      + "sums ask watch watch unwatch backup restore restore drop_backup backup_lines schema".split())
    if name == "advance":
        given = (plain.moment + rng.choice([-1, 0, 1, 1, 1, 2, 4]),)
    elif name == "set_schema":
        given = (rng.choice(KINDS), random_columns(rng))
    elif name == "add_rule":
        given = (rng.choice([random_rule(rng, plain)] * 7 + [rng.choice(BAD_RULES)] + plain.rules[:1]),)
    elif name == "drop_rule":
        given = (rng.choice(plain.rules + [random_rule(rng, plain)]),)
    elif name == "tell":
        given = (rng.choice([random_told(rng, plain)] * 20 + [rng.choice(BAD_LINES)]),)
    elif name == "sums":
        given = (rng.choice(KINDS), rng.choice(NAMES))
    elif name == "schema":
        given = (rng.choice(KINDS),)
    elif name in ("ask", "watch"):
        text, question = random_asked(rng)
        before = () if name == "ask" else (word,)
        return name, before + (text,), before + (question,)
    else:
        given = (word,)
    return name, given, given


def outcome(call, *given):
    """Return what a call returns, or the name of the error that it raises."""
    try:
        return ("returned", call(*given))
    except ShedError as error:
        return ("raised", error.__class__.__name__)
    except Wrong as error:
        return ("raised", str(error))


def plain_state(plain):
    """Return everything that a plain store shows."""
    return (plain.moment, sorted(plain.rules), plain.lines, plain.kept(),
            [(kind, plain.schemas[kind]) for kind in sorted(plain.schemas)],
            [(name, plain_text(plain.asked[name])) for name in sorted(plain.asked)], plain.told,
            [(name, plain.backups[name]) for name in sorted(plain.backups)])


def state(store):
    """Return everything that a store shows."""
    return (store.now(), store.rules(), store.lines(), store.kept(),
            [(kind, store.schema(kind)) for kind in store.kinds()], store.watched(), store.news(),
            [(name, store.backup_lines(name)) for name in store.backups()])


def plain_image(plain):
    return packing.image(plain.moment, plain.schemas, sorted(plain.rules), plain.lines, plain.kept(),
                         {name: plain_text(plain.asked[name]) for name in plain.asked}, plain.backups)
