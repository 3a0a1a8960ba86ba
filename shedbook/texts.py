"""What the written forms of lines, schemas and rules have in common, and ascending lists."""

from shedbook.errors import Malformed
from shedbook.values import is_number, is_word, read_integer, write_integer


def write_value(value):
    """Return the written form of a value: a word stands for itself."""
    if isinstance(value, str):
        return value
    return write_integer(value)


def read_value(text):
    """Return the value with this written form; raise Malformed if there is none."""
    if is_word(text):
        return text
    number = read_integer(text)
    if not is_number(number):
        raise Malformed()
    return number


def write_bracketed(opening, items, closing):
    """Return the written items between brackets, with commas between them."""
    return opening + ",".join(items) + closing


def read_bracketed(opening, text, closing):
    """Return the list of the written items; raise Malformed if the brackets are missing."""
    if not (text.startswith(opening) and text.endswith(closing)):
        raise Malformed()
    inner = text[len(opening):-len(closing)]
    # An empty text splits into one empty item, but the empty brackets have none.
    if inner == "":
        return []
    return inner.split(",")


def is_ascending(parts):
    """Tell whether the parts, which can be compared, ascend without duplicates."""
    return all([parts[k] < parts[k + 1] for k in range(len(parts) - 1)])
