"""Kept answers, and which changes drop them (points 51 and 52)."""

from shedbook.plans import paths, run
from shedbook.questions import kinds_of, write_question


def touches(question, line):
    """Tell whether a line that comes or goes may change the answer to a question."""
    time, kind, subject, _, _ = line
    if kind not in kinds_of(question):
        return False
    for path in paths(question):
        if path[0] == "subject" and path[1] != subject:
            return False
        # Only with "of" is every line of a match a first line, to which the path leads.
        if path[0] == "times" and question[0][0] == "of" and not path[1] <= time <= path[2]:
            return False
    return True


class Answers:
    """Answers that were given before: by the written form a question and the rows of its answer."""

    def __init__(self):
        self.given = {}

    def ask(self, question, schemas, index):
        """Return the kept answer, or else find the answer and keep it."""
        text = write_question(question)
        if text not in self.given:
            self.given[text] = (question, run(question, schemas, index))
        return list(self.given[text][1])

    def line_changed(self, line):
        """Drop the answers that a line touches; return the ascending list of their questions as texts."""
        return self.drop_all([text for text in self.kept() if touches(self.given[text][0], line)])

    def schema_changed(self, kind):
        """Drop the answers that the schema of a kind touches; return the ascending list of their questions as texts."""
        return self.drop_all([text for text in self.kept() if kind in kinds_of(self.given[text][0])])

    def drop_all(self, texts):
        """Drop the answers to the questions with these written forms; return these."""
        for text in texts:
            del self.given[text]
        return list(texts)

    def kept(self):
        """Return the ascending list of the written forms of the questions whose answers are kept."""
        return sorted(list(self.given))
