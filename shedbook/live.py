"""Live answers, which follow the changes of lines subject by subject (points 53 and 54)."""

from shedbook.meaning import cells_found, matches, rows_of, sorted_rows, split_subjects
from shedbook.plans import lines_of_subject


class Live:
    """A live answer: its question, and by the subject the ascending cells of the matches."""

    def __init__(self, question, schemas, lines):
        self.question = question
        self.cells = {}
        for subject, own in split_subjects(lines).items():
            self.find_cells(subject, schemas, own)

    def find_cells(self, subject, schemas, lines):
        """Find the cells of a subject in the ascending list of its lines."""
        cells = cells_found(self.question, schemas, matches(self.question[0], lines))
        if len(cells) > 0:
            self.cells[subject] = sorted_rows(cells)
        elif subject in self.cells:
            del self.cells[subject]

    def change(self, subject, schemas, index):
        """Find the cells of a subject anew from the lines of the index."""
        self.find_cells(subject, schemas, lines_of_subject(self.question, subject, index))

    def rows(self):
        """Return the answer."""
        found = []
        for subject in self.cells:
            found.extend(self.cells[subject])
        return rows_of(self.question, found)

    def parts(self):
        """Return the ascending tuple of the pairs of a subject and the tuple of its cells."""
        return tuple([(subject, tuple(self.cells[subject])) for subject in sorted(list(self.cells))])
