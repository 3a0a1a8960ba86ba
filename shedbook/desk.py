"""The desk: a vault at which askers ask what they may, and the ledger of it (points 76 and 77)."""

from shedbook.disks import Vault
from shedbook.errors import Forbidden, NotFound, Refused
from shedbook.questions import kinds_of, names_of, read_question, write_question

LEVELS = ("full", "sums")
HIDDEN = ("subject", "serial")


def is_discreet(question):
    """Tell whether a question asks for groups and names neither a subject nor a serial."""
    return question[2][0] == "groups" and not any([word in HIDDEN for _, word in names_of(question)])


class Desk:
    """A vault, the levels of the grants by the asker and the kind, and the ledger."""

    def __init__(self):
        self.held = Vault()
        self.levels = {}
        self.entries = []

    def vault(self):
        """Return the vault itself."""
        return self.held

    def grant(self, asker, kind, level):
        """Set or replace a grant; raise Refused if the level is none."""
        if level not in LEVELS:
            raise Refused()
        self.levels[(asker, kind)] = level

    def revoke(self, asker, kind):
        """Remove a grant; raise NotFound if there is none."""
        if (asker, kind) not in self.levels:
            raise NotFound()
        del self.levels[(asker, kind)]

    def grants(self):
        """Return the ascending list of the grants."""
        return sorted([(asker, kind, level) for (asker, kind), level in self.levels.items()])

    def is_allowed(self, asker, question):
        """Tell whether an asker may ask a question."""
        levels = [self.levels.get((asker, kind), "") for kind in kinds_of(question)]
        if "" in levels:
            return False
        return is_discreet(question) or "sums" not in levels

    def may_ask(self, asker, text):
        """Tell whether an asker may ask the question; raise BadQuestion if the text is none."""
        return self.is_allowed(asker, read_question(text))

    def ask(self, asker, text):
        """Return the answer; raise BadQuestion, or make an entry and raise Forbidden if the asker may not ask."""
        question = read_question(text)
        store = self.held.store()
        allowed = self.is_allowed(asker, question)
        self.entries.append((store.now(), asker, write_question(question), allowed))
        if not allowed:
            raise Forbidden()
        return store.ask(text)

    def ledger(self):
        """Return the list of the entries, in the order in which the questions were asked."""
        return list(self.entries)
