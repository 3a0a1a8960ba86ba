"""Schemas, views of lines, and the written forms of schemas (points 6 to 8)."""

from shedbook.errors import InvalidSchema, Malformed
from shedbook.texts import is_ascending, read_bracketed, read_value, write_bracketed, write_value
from shedbook.values import is_number, is_word

MOST_COLUMNS = 6


def is_schema(kind, columns):
    """Tell whether the columns are a schema of the kind."""
    if not is_word(kind) or len(columns) > MOST_COLUMNS:
        return False
    names = [name for name, sort, default in columns]
    return all([is_column(column) for column in columns]) and is_ascending(names)


def is_column(column):
    """Tell whether a tuple of a name, a sort and a default is a column."""
    name, sort, default = column
    if not is_word(name):
        return False
    if sort == "int":
        return is_number(default)
    return sort == "word" and is_word(default)


def check_schema(kind, columns):
    """Raise InvalidSchema if the list of columns is not a schema of the kind."""
    if not is_schema(kind, columns):
        raise InvalidSchema()


def sort_of(value):
    """Return the sort of a value: int or word."""
    return "word" if isinstance(value, str) else "int"


def seen_in(column, line):
    """Return the value that a line has in a column, or else the default of the column."""
    name, sort, default = column
    for field, value in line[4]:
        if field == name and sort_of(value) == sort:
            return value
    return default


def view(columns, line):
    """Return the dict that gives each column its value in the line, or else its default."""
    return {column[0]: seen_in(column, line) for column in columns}


def write_schema(kind, columns):
    """Return the written form of a schema."""
    written = [name + ":" + sort + "=" + write_value(default) for name, sort, default in columns]
    return kind + " " + write_bracketed("(", written, ")")


def read_schema(text):
    """Return the kind and the columns with this written form; raise Malformed if there are none."""
    # Without the space the rest is empty, and it lacks its brackets.
    kind, _, written = text.partition(" ")
    columns = [read_column(item) for item in read_bracketed("(", written, ")")]
    if not is_schema(kind, columns):
        raise Malformed()
    return (kind, columns)


def read_column(text):
    """Return the name, the sort and the default of a written column."""
    # Without one of the signs the default is the empty text, which is no written value.
    name, _, rest = text.partition(":")
    sort, _, default = rest.partition("=")
    return (name, sort, read_value(default))
