"""Ascending lists of lines to which lines are added one by one."""

from shedbook.lines import line_key


class Shelf:
    """A set of lines. It keeps the ascending list of the pairs of the key of a line and the line."""

    def __init__(self):
        self.pairs = []

    def place_of(self, key):
        """Return the place of the first line that does not come before the key."""
        low, high = 0, len(self.pairs)
        while low < high:
            middle = (low + high) // 2
            if self.pairs[middle][0] < key:
                low = middle + 1
            else:
                high = middle
        return low

    def has(self, line):
        """Tell whether the shelf has a line."""
        place = self.place_of(line_key(line))
        return place < len(self.pairs) and self.pairs[place][1] == line

    def put(self, line):
        """Put a line that is not there to its place."""
        key = line_key(line)
        self.pairs.insert(self.place_of(key), (key, line))

    def drop(self, line):
        """Take out a line that is there."""
        del self.pairs[self.place_of(line_key(line))]

    def lines(self):
        """Return the ascending list of the lines."""
        return [line for _, line in self.pairs]

    def lines_of_times(self, low, high):
        """Return the ascending list of the lines with a time from low to high."""
        # The key of a line begins with its time, so it comes behind the time alone.
        return [line for _, line in self.pairs[self.place_of((low,)):self.place_of((high + 1,))]]

    def is_bare(self):
        """Tell whether the shelf has no lines."""
        return len(self.pairs) == 0
