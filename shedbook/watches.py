"""Standing questions, and what came into their answers and went out of them (points 55 to 58)."""

from shedbook.errors import Duplicate, NotFound
from shedbook.meaning import sorted_rows
from shedbook.plans import run
from shedbook.questions import read_question, write_question


def without(rows, others):
    """Return the ascending list of the rows without the others, where a row counts as often as it occurs."""
    counts = {}
    for row in others:
        counts[row] = counts.get(row, 0) + 1
    left = []
    for row in rows:
        if counts.get(row, 0) == 0:
            left.append(row)
        else:
            counts[row] -= 1
    return sorted_rows(left)


def difference(old, new):
    """Return the list of the rows that came and the list of those that went."""
    return (without(new, old), without(old, new))


class Watches:
    """Standing questions: by the name the question and the latest rows."""

    def __init__(self):
        self.asked = {}
        self.latest = {}

    def add(self, name, question, rows):
        """Add a standing question with these latest rows; raise Duplicate if the name is there."""
        if name in self.asked:
            raise Duplicate()
        self.asked[name] = question
        self.latest[name] = list(rows)

    def drop(self, name):
        """Remove a standing question; raise NotFound if the name is not there."""
        self.check_name(name)
        del self.asked[name]
        del self.latest[name]

    def check_name(self, name):
        """Raise NotFound if the name is not there."""
        if name not in self.asked:
            raise NotFound()

    def names(self):
        """Return the ascending list of the names."""
        return sorted(list(self.asked))

    def question(self, name):
        """Return the question with this name; raise NotFound if the name is not there."""
        self.check_name(name)
        return self.asked[name]

    def rows(self, name):
        """Return the list of the latest rows; raise NotFound if the name is not there."""
        self.check_name(name)
        return list(self.latest[name])

    def refresh(self, schemas, index):
        """Ask every question anew; return the list of each name, what came and what went, if anything did."""
        return self.renew({name: run(self.asked[name], schemas, index) for name in self.names()})

    def renew(self, answers):
        """Take the new answers, by the name; return the list of each name, what came and what went, if anything did."""
        told = []
        for name in self.names():
            rows = list(answers[name])
            came, went = difference(self.latest[name], rows)
            self.latest[name] = rows
            if len(came) + len(went) > 0:
                told.append((name, came, went))
        return told

    def parts(self):
        """Return the ascending tuple of each name, the written question and the tuple of the latest rows."""
        return tuple([(name, write_question(self.asked[name]), tuple(self.latest[name])) for name in self.names()])


def from_parts(parts):
    """Return the standing questions with these parts."""
    watches = Watches()
    for name, text, rows in parts:
        watches.add(name, read_question(text), list(rows))
    return watches
