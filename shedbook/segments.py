"""Segments of lines and their packed forms (points 18 to 21)."""

from shedbook.errors import Malformed
from shedbook.lines import is_line, sorted_lines
from shedbook.values import LETTERS, LONGEST_WORD

SEGMENT_TIMES = 64
# Ten digits reach far beyond every number that a list of the allowed length can mean.
# The limit keeps a list of endless digits from costing endless time.
MOST_DIGITS = 10


def segment_of(line):
    """Return the number of the segment of a line."""
    return line[0] // SEGMENT_TIMES


def split_segments(lines):
    """Return the ascending list of the segments that have lines, each with its lines."""
    found = {}
    for line in sorted_lines(lines):
        found.setdefault(segment_of(line), []).append(line)
    return [(segment, found[segment]) for segment in sorted(found)]


def pack_natural(number):
    """Return the bytes of a natural number."""
    data = []
    while number >= 128:
        data.append(128 + number % 128)
        number = number // 128
    data.append(number)
    return data


def pack_integer(number):
    """Return the bytes of an integer."""
    if number >= 0:
        return pack_natural(2 * number)
    return pack_natural(-2 * number - 1)


def pack_word(word):
    """Return the bytes of a word."""
    return pack_natural(len(word)) + [ord(mark) - ord("a") + 1 for mark in word]


def pack_value(value):
    """Return the bytes of a value."""
    if isinstance(value, str):
        return [1] + pack_word(value)
    return [0] + pack_integer(value)


def words_of_line(line):
    """Return the list of the words of a line, its field names and word values included."""
    words = [line[1], line[2]]
    for name, value in line[4]:
        words.append(name)
        if isinstance(value, str):
            words.append(value)
    return words


def words_of(lines):
    """Return the list of the words that occur in the lines, in ascending order."""
    return sorted(set([word for line in lines for word in words_of_line(line)]))


def pack_times(lines):
    """Return the bytes of the times: the first one, and then the differences."""
    data = []
    before = 0
    for line in lines:
        data.extend(pack_natural(line[0] - before))
        before = line[0]
    return data


def runs_of(words):
    """Return the list of the longest runs of equal words, each with its length."""
    runs = []
    for word in words:
        if runs and runs[-1][0] == word:
            runs[-1] = (word, runs[-1][1] + 1)
        else:
            runs.append((word, 1))
    return runs


def pack_runs(words, places):
    """Return the bytes of a column of words as runs."""
    data = []
    for word, length in runs_of(words):
        data.extend(pack_natural(places[word]))
        data.extend(pack_natural(length))
    return data


def pack_fields(fields, places):
    """Return the bytes of the fields of one line."""
    data = pack_natural(len(fields))
    for name, value in fields:
        data.extend(pack_natural(places[name]))
        if isinstance(value, str):
            data.extend([1] + pack_natural(places[value]))
        else:
            data.extend(pack_value(value))
    return data


def pack_segment(lines):
    """Return the bytes of the ascending lines of one segment."""
    words = words_of(lines)
    places = {words[k]: k for k in range(len(words))}
    data = pack_natural(len(lines)) + pack_natural(len(words))
    for word in words:
        data.extend(pack_word(word))
    data.extend(pack_times(lines))
    data.extend(pack_runs([line[1] for line in lines], places))
    data.extend(pack_runs([line[2] for line in lines], places))
    for line in lines:
        data.extend(pack_natural(line[3]))
    for line in lines:
        data.extend(pack_fields(line[4], places))
    return data


class Reader:
    """Reads packed parts from a list of bytes, one behind the other."""

    def __init__(self, data):
        self.data = data
        self.at = 0

    def byte(self):
        """Return the byte that comes next; raise Malformed if there is none."""
        if self.at == len(self.data):
            raise Malformed()
        self.at += 1
        return self.data[self.at - 1]

    def natural(self):
        """Return the natural number that comes next, superfluous digits or not."""
        number = 0
        weight = 1
        for _ in range(MOST_DIGITS):
            digit = self.byte()
            if digit < 128:
                return number + digit * weight
            number += (digit - 128) * weight
            weight *= 128
        raise Malformed()

    def integer(self):
        """Return the integer that comes next."""
        number = self.natural()
        if number % 2 == 0:
            return number // 2
        return -(number // 2) - 1

    def letter(self):
        """Return the letter that comes next."""
        place = self.byte()
        if not 1 <= place <= len(LETTERS):
            raise Malformed()
        return LETTERS[place - 1]

    def word(self):
        """Return the word that comes next."""
        length = self.natural()
        if not 1 <= length <= LONGEST_WORD:
            raise Malformed()
        return "".join([self.letter() for _ in range(length)])

    def value(self):
        """Return the value that comes next."""
        sort = self.byte()
        if sort == 0:
            return self.integer()
        if sort == 1:
            return self.word()
        raise Malformed()

    def several(self, many):
        """Return the list of as many bytes that come next."""
        start = self.at
        if many > len(self.data) - start:
            raise Malformed()
        self.at += many
        return self.data[start:self.at]


def read_place(reader, words):
    """Return the word whose place comes next."""
    place = reader.natural()
    if place >= len(words):
        raise Malformed()
    return words[place]


def read_times(reader, many):
    """Return the list of the times that come next."""
    times = []
    time = 0
    for _ in range(many):
        time += reader.natural()
        times.append(time)
    return times


def read_runs(reader, words, many):
    """Return the list of as many words that come next as runs."""
    found = []
    while len(found) < many:
        word = read_place(reader, words)
        length = reader.natural()
        if length > many - len(found):
            raise Malformed()
        found.extend([word] * length)
    return found


def read_value_at_place(reader, words):
    """Return the value of a field that comes next."""
    sort = reader.byte()
    if sort == 0:
        return reader.integer()
    if sort == 1:
        return read_place(reader, words)
    raise Malformed()


def read_fields(reader, words):
    """Return the fields of one line that come next."""
    many = reader.natural()
    fields = []
    for _ in range(many):
        name = read_place(reader, words)
        fields.append((name, read_value_at_place(reader, words)))
    return tuple(fields)


def read_lines(reader):
    """Return the list of the lines that come next, in order or not."""
    many = reader.natural()
    many_words = reader.natural()
    words = [reader.word() for _ in range(many_words)]
    # Each time has a byte, so from here on the data are as long as the columns at least.
    times = read_times(reader, many)
    kinds = read_runs(reader, words, many)
    subjects = read_runs(reader, words, many)
    serials = [reader.natural() for _ in range(many)]
    fields = [read_fields(reader, words) for _ in range(many)]
    return [(times[k], kinds[k], subjects[k], serials[k], fields[k]) for k in range(many)]


def is_segment(lines):
    """Tell whether the lines are what a segment may have: ascending and of one segment."""
    if len(lines) == 0 or not all([is_line(line) for line in lines]):
        return False
    return lines == sorted_lines(lines) and segment_of(lines[0]) == segment_of(lines[-1])


def unpack_segment(data):
    """Return the lines with this packed form; raise Malformed if there are none."""
    lines = read_lines(Reader(data))
    # A segment has one packed form: this bars every other way to tell the same lines.
    if not is_segment(lines) or pack_segment(lines) != data:
        raise Malformed()
    return lines
