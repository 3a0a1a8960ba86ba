"""Words, numbers and the order of values (point 2), and written integers (point 5)."""

from shedbook.errors import Malformed

LETTERS = "abcdefghijklmnopqrstuvwxyz"
LONGEST_WORD = 12
GREATEST_NUMBER = 999999


def is_word(value):
    """Tell whether an integer or a string is a word."""
    if not isinstance(value, str):
        return False
    return 1 <= len(value) <= LONGEST_WORD and all([mark in LETTERS for mark in value])


def is_number(value):
    """Tell whether an integer or a string is a number."""
    return isinstance(value, int) and -GREATEST_NUMBER <= value <= GREATEST_NUMBER


def is_value(value):
    """Tell whether an integer or a string is a value."""
    return is_number(value) or is_word(value)


def value_key(value):
    """Return a tuple; the tuples of two values compare as the values do."""
    if isinstance(value, str):
        return (1, 0, value)
    return (0, value, "")


def compare_keys(first, second):
    """Return -1, 0 or 1 for two tuples that can be compared."""
    if first < second:
        return -1
    if first > second:
        return 1
    return 0


def compare_values(first, second):
    """Return -1, 0 or 1: how the first value stands to the second one."""
    return compare_keys(value_key(first), value_key(second))


def write_integer(number):
    """Return the written form of an integer."""
    return str(number)


def read_integer(text):
    """Return the integer with this written form; raise Malformed if there is none."""
    figures = text[1:] if text.startswith("-") else text
    if not figures.isdigit():
        raise Malformed()
    number = int(text)
    # An integer has one written form: this bars -0 and leading zeros.
    if write_integer(number) != text:
        raise Malformed()
    return number
