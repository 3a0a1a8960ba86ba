"""The store: lines that stand by rules, and what is asked of them (points 63 to 66)."""

from shedbook.answers import Answers
from shedbook.errors import Clash, Duplicate, NotFound, Past, Refused, UnknownKind
from shedbook.index import Index
from shedbook.lines import check_line
from shedbook.plans import run
from shedbook.questions import read_question, write_question
from shedbook.rules import check_rule, clash, rule_key
from shedbook.schemas import check_schema
from shedbook.standing import expired_forms, left_of, lines_in_backup, standing_lines
from shedbook.sums import add_expired, kept_on, window_sums
from shedbook.watches import Watches


class Store:
    """A store: its moment, schemas, rules, standing lines, kept sums, standing questions and backups."""

    def __init__(self):
        self.moment = 0
        self.columns = {}
        self.ruled = []
        self.index = Index([])
        self.kept_sums = []
        self.watches = Watches()
        self.saved = {}
        self.latest_news = []
        # The answers to the standing questions that no change has touched.
        self.answers = Answers()

    def now(self):
        """Return the present moment."""
        return self.moment

    def rules(self):
        """Return the ascending list of the rules."""
        return list(self.ruled)

    def lines(self):
        """Return the ascending list of the standing lines."""
        return self.index.all_lines()

    def kept(self):
        """Return the ascending list of the kept sums."""
        return list(self.kept_sums)

    def kinds(self):
        """Return the ascending list of the kinds that have a schema."""
        return sorted(list(self.columns))

    def schema(self, kind):
        """Return the list of the columns of a kind; raise UnknownKind if it has no schema."""
        self.check_kind(kind)
        return list(self.columns[kind])

    def check_kind(self, kind):
        """Raise UnknownKind if the kind has no schema."""
        if kind not in self.columns:
            raise UnknownKind()

    def advance(self, moment):
        """Set the present moment; raise Past if it is less than the one before."""
        if moment < self.moment:
            raise Past()
        self.moment = moment
        self.apply_rules()
        self.refresh()

    def set_schema(self, kind, columns):
        """Set or replace the schema of a kind; raise InvalidSchema if it is none."""
        check_schema(kind, columns)
        self.columns[kind] = list(columns)
        self.answers.schema_changed(kind)
        self.refresh()

    def add_rule(self, rule):
        """Add a rule; raise InvalidRule, Duplicate or Clash if it cannot be added."""
        check_rule(rule)
        if rule in self.ruled:
            raise Duplicate()
        if any([clash(rule, other) for other in self.ruled]):
            raise Clash()
        self.ruled = sorted(self.ruled + [rule], key=rule_key)
        self.apply_rules()
        self.refresh()

    def drop_rule(self, rule):
        """Drop a rule; raise NotFound if the store does not have it."""
        if rule not in self.ruled:
            raise NotFound()
        self.ruled = [other for other in self.ruled if other != rule]
        self.apply_rules()
        self.refresh()

    def tell(self, line):
        """Put what the rules leave of a line; return True if it came, and False if it stood there.

        The rules were applied to all that stands at this moment, so they change nothing else now.
        """
        check_line(line)
        self.check_kind(line[1])
        left = left_of(self.ruled, self.moment, line)
        if left is None:
            raise Refused()
        came = self.put(left)
        self.refresh()
        return came

    def sums(self, kind, field):
        """Return the list of the sums of a field by windows; raise NotFound if no "sum" rule keeps them."""
        found = [rule for rule in self.ruled if rule[0] == "sum" and rule[1:3] == (kind, field)]
        if len(found) == 0:
            raise NotFound()
        return window_sums(found[0], self.index.of_kind(kind), self.kept_sums)

    def ask(self, text):
        """Return the answer to a question; raise BadQuestion if the text is none."""
        return run(read_question(text), self.columns, self.index)

    def watch(self, name, text):
        """Make a standing question; raise BadQuestion or Duplicate."""
        question = read_question(text)
        self.watches.add(name, question, run(question, self.columns, self.index))
        self.refresh()

    def unwatch(self, name):
        """Remove a standing question; raise NotFound if the name is not there."""
        self.watches.drop(name)

    def watched(self):
        """Return the ascending list of the names of the standing questions, each with its written form."""
        return [(name, write_question(self.watches.question(name))) for name in self.watches.names()]

    def news(self):
        """Return the list of what came and went in the latest refreshing, by the names."""
        return [(name, list(came), list(went)) for name, came, went in self.latest_news]

    def backup(self, name):
        """Make a backup of all standing lines; return how many; raise Duplicate if the name is there."""
        if name in self.saved:
            raise Duplicate()
        self.saved[name] = self.lines()
        return len(self.saved[name])

    def restore(self, name):
        """Tell the lines of a backup; return how many came; raise NotFound if the name is not there."""
        came = 0
        # Of several lines of which the rules leave the same, only the first one comes.
        for line in standing_lines(self.ruled, self.moment, self.backup_lines(name)):
            if self.put(line):
                came += 1
        self.refresh()
        return came

    def drop_backup(self, name):
        """Remove a backup; raise NotFound if the name is not there."""
        self.check_backup(name)
        del self.saved[name]

    def backup_lines(self, name):
        """Return the ascending list of the lines of a backup; raise NotFound if the name is not there."""
        self.check_backup(name)
        return list(self.saved[name])

    def check_backup(self, name):
        """Raise NotFound if there is no backup with this name."""
        if name not in self.saved:
            raise NotFound()

    def backups(self):
        """Return the ascending list of the names of the backups."""
        return sorted(list(self.saved))

    def put(self, line):
        """Put a line that the rules leave as it is; return True if it came, and False if it stood there."""
        came = self.index.add(line)
        if came:
            self.answers.line_changed(line)
        return came

    def apply_rules(self):
        """Apply the rules to the lines, the kept sums and the backups."""
        before = self.lines()
        left = standing_lines(self.ruled, self.moment, before)
        forms = expired_forms(self.ruled, self.moment, before)
        self.replace_lines(before, left)
        kept = add_expired(self.ruled, self.kept_sums, forms)
        self.kept_sums = kept_on(self.ruled, self.moment, kept)
        self.saved = {name: lines_in_backup(self.ruled, self.moment, self.saved[name]) for name in self.saved}

    def replace_lines(self, before, left):
        """Replace the lines that stood before by what is left of them."""
        stay = {line: True for line in left}
        for line in before:
            if line not in stay:
                self.index.remove(line)
                self.answers.line_changed(line)
        for line in left:
            self.put(line)

    def refresh(self):
        """Refresh the standing questions, and keep what this tells as the news."""
        names = self.watches.names()
        answers = {name: self.answer_to(self.watches.question(name)) for name in names}
        self.latest_news = self.watches.renew(answers)

    def answer_to(self, question):
        """Return the answer to a question, which is kept until a change touches it."""
        return self.answers.ask(question, self.columns, self.index)


def store_of(moment, schemas, rules, lines, kept, questions, saved):
    """Return the store that has these parts, once the rules were applied to them.

    The schemas, the questions and the lines of the backups are given as dicts by the kinds and the names.
    """
    store = Store()
    store.moment = moment
    store.columns = {kind: list(schemas[kind]) for kind in schemas}
    store.ruled = list(rules)
    store.index = Index(lines)
    store.kept_sums = list(kept)
    store.saved = {name: list(saved[name]) for name in saved}
    store.apply_rules()
    for name in questions:
        store.watches.add(name, questions[name], store.answer_to(questions[name]))
    return store
