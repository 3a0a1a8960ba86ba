"""An index of lines (point 46)."""

from shedbook.schemas import sort_of
from shedbook.shelves import Shelf
from shedbook.texts import write_value
from shedbook.values import value_key


def subject_key(kind, subject):
    """Return the key for the lines of a kind and a subject."""
    return (kind, "subject", subject)


def value_place(kind, name, value):
    """Return the key for the lines of a kind that have a field with this name and value."""
    return (kind, "value", name, sort_of(value), write_value(value))


def places_of(line):
    """Return the list of the keys that find a line."""
    _, kind, subject, _, fields = line
    return [(kind,), subject_key(kind, subject)] + [value_place(kind, name, value) for name, value in fields]


class Index:
    """A set of lines, with a shelf for each key that finds some of them."""

    def __init__(self, lines):
        self.everything = Shelf()
        self.shelves = {}
        for line in lines:
            self.add(line)

    def add(self, line):
        """Add a line; return True if it came and False if it was there."""
        if self.everything.has(line):
            return False
        self.everything.put(line)
        for key in places_of(line):
            if key not in self.shelves:
                self.shelves[key] = Shelf()
            self.shelves[key].put(line)
        return True

    def remove(self, line):
        """Remove a line; return True if it went and False if it was not there."""
        if not self.everything.has(line):
            return False
        self.everything.drop(line)
        for key in places_of(line):
            self.shelves[key].drop(line)
            if self.shelves[key].is_bare():
                del self.shelves[key]
        return True

    def has(self, line):
        """Tell whether the index holds a line."""
        return self.everything.has(line)

    def all_lines(self):
        """Return the ascending list of all lines."""
        return self.everything.lines()

    def found_by(self, key):
        """Return the ascending list of the lines that a key finds."""
        if key not in self.shelves:
            return []
        return self.shelves[key].lines()

    def of_kind(self, kind):
        """Return the ascending list of the lines of a kind."""
        return self.found_by((kind,))

    def of_subject(self, kind, subject):
        """Return the ascending list of the lines of a kind and a subject."""
        return self.found_by(subject_key(kind, subject))

    def of_times(self, kind, low, high):
        """Return the ascending list of the lines of a kind with a time from low to high."""
        if (kind,) not in self.shelves:
            return []
        return self.shelves[(kind,)].lines_of_times(low, high)

    def of_value(self, kind, name, value):
        """Return the ascending list of the lines of a kind with a field of this name and value."""
        return self.found_by(value_place(kind, name, value))

    def values_of(self, kind, name):
        """Return the ascending list of the values of the fields with this name in lines of a kind."""
        found = {}
        for line in self.of_kind(kind):
            for field, value in line[4]:
                if field == name:
                    found[value] = True
        return sorted(list(found), key=value_key)

    def subjects(self):
        """Return the ascending list of the subjects of all lines."""
        return sorted(set([line[2] for line in self.all_lines()]))

    def parts(self):
        """Return the ascending tuple of the pairs of a key and the tuple of the lines that it finds."""
        return tuple([(key, tuple(self.found_by(key))) for key in sorted(list(self.shelves))])
