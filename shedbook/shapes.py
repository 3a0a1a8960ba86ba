"""Shapes as texts: the names in them, how they are written and read (points 36, 39 and 42)."""

from shedbook.tokens import Fault, take_name, take_number, take_word, write_name
from shedbook.values import write_integer

SUMS = ("count", "sum", "least", "greatest", "unlike")
MOST_NAMES_IN_ROWS = 6
MOST_NAMES_IN_GROUPS = 4
MOST_SUMS = 6
GREATEST_WIDTH = 9999


def names_in_shape(shape):
    """Return the list of the names in a shape."""
    if shape[0] == "rows":
        return list(shape[1])
    _, _, names, sums = shape
    return list(names) + [total[1] for total in sums if total[0] != "count"]


def columns_before_sums(shape):
    """Return how many values stand before the sums in the rows of groups."""
    _, width, names, _ = shape
    return len(names) + (0 if width == 0 else 1)


def columns_of(shape):
    """Return how many values the rows have."""
    if shape[0] == "rows":
        return len(shape[1])
    return columns_before_sums(shape) + len(shape[3])


def write_shape(shape):
    """Return the written form of a shape."""
    if shape[0] == "rows":
        return " ".join(["rows"] + [write_name(name) for name in shape[1]])
    _, width, names, sums = shape
    start = ["groups"] if width == 0 else ["groups", "by", write_integer(width)]
    return " ".join(start + [write_name(name) for name in names] + [":"] + [write_sum(total) for total in sums])


def write_sum(total):
    """Return the written form of a sum."""
    if total[0] == "count":
        return "count"
    return total[0] + " " + write_name(total[1])


def read_rows(tokens):
    """Return the shape whose names come next."""
    names = [take_name(tokens)]
    while not tokens.is_done():
        if len(names) == MOST_NAMES_IN_ROWS:
            raise Fault(tokens.look()[2], "too many names")
        names.append(take_name(tokens))
    return ("rows", tuple(names))


def read_groups(tokens):
    """Return the shape whose width, names and sums come next."""
    width = 0
    if tokens.is_next("word", "by"):
        tokens.take()
        width = take_number(tokens, 1, GREATEST_WIDTH, "invalid width")
    names = []
    while not tokens.is_next("sign", ":"):
        column = tokens.look()[2]
        if len(names) == MOST_NAMES_IN_GROUPS:
            raise Fault(column, "too many names")
        names.append(take_name(tokens))
    tokens.take()
    return ("groups", width, tuple(names), read_sums(tokens))


def read_sums(tokens):
    """Return the tuple of the sums that come next."""
    sums = [take_sum(tokens)]
    while not tokens.is_done():
        if len(sums) == MOST_SUMS:
            raise Fault(tokens.look()[2], "too many sums")
        sums.append(take_sum(tokens))
    return tuple(sums)


def take_sum(tokens):
    """Return the sum that comes next."""
    word = take_word(tokens, SUMS, "sum expected")
    if word == "count":
        return ("count",)
    return (word, take_name(tokens))
