"""Lines, their order and their written forms (points 3 to 5)."""

from shedbook.errors import InvalidLine, Malformed
from shedbook.texts import is_ascending, read_bracketed, read_value, write_bracketed, write_value
from shedbook.values import compare_keys, is_value, is_word, read_integer, value_key, write_integer

GREATEST_TIME = 9999
GREATEST_SERIAL = 9999
MOST_FIELDS = 6


def is_line(line):
    """Tell whether a tuple of five parts is a line."""
    time, kind, subject, serial, fields = line
    if not (0 <= time <= GREATEST_TIME and 0 <= serial <= GREATEST_SERIAL):
        return False
    return is_word(kind) and is_word(subject) and are_fields(fields)


def are_fields(fields):
    """Tell whether a tuple of pairs of a name and a value can be the fields of a line."""
    if len(fields) > MOST_FIELDS:
        return False
    names = [name for name, value in fields]
    if not all([is_word(name) and is_value(value) for name, value in fields]):
        return False
    return is_ascending(names)


def check_line(line):
    """Raise InvalidLine if the tuple is not a line."""
    if not is_line(line):
        raise InvalidLine()


def line_key(line):
    """Return a tuple; the tuples of two lines compare as the lines do."""
    time, kind, subject, serial, fields = line
    return (time, kind, subject, serial, tuple([(name, value_key(value)) for name, value in fields]))


def compare_lines(first, second):
    """Return -1, 0 or 1: how the first line stands to the second one."""
    return compare_keys(line_key(first), line_key(second))


def sorted_lines(lines):
    """Return the list of the lines in ascending order, without duplicates."""
    ordered = sorted(lines, key=line_key)
    return [ordered[k] for k in range(len(ordered)) if k == 0 or ordered[k - 1] != ordered[k]]


def write_line(line):
    """Return the written form of a line."""
    time, kind, subject, serial, fields = line
    written = [name + "=" + write_value(value) for name, value in fields]
    parts = [write_integer(time), kind, subject, write_integer(serial), write_bracketed("{", written, "}")]
    return " ".join(parts)


def read_line(text):
    """Return the line with this written form; raise Malformed if there is none."""
    parts = text.split(" ")
    if len(parts) != 5:
        raise Malformed()
    time, kind, subject, serial, written = parts
    fields = tuple([read_field(item) for item in read_bracketed("{", written, "}")])
    line = (read_integer(time), kind, subject, read_integer(serial), fields)
    if not is_line(line):
        raise Malformed()
    return line


def read_field(text):
    """Return the pair of the name and the value of a written field."""
    # Without the sign the value is the empty text, which is no written value.
    name, _, value = text.partition("=")
    return (name, read_value(value))
