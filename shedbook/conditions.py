"""Conditions as texts: the names in them, how they are written and read (points 35, 39 and 42)."""

from shedbook.tokens import QUOTE, Fault, take_name, take_word, write_name
from shedbook.values import write_integer

RELATIONS = ("is", "differs", "below", "above")
MOST_LEVELS = 6
MOST_TESTS = 12
# Which parts stand in brackets, by what they are a part of.
BRACKETED = {"and": ("and", "or"), "or": ("or",), "negate": ("and", "or")}


def names_in_condition(condition):
    """Return the list of the names in a condition."""
    if condition[0] == "all":
        return []
    if condition[0] == "test":
        return [operand for operand in (condition[1], condition[3]) if operand[0] != "value"]
    if condition[0] == "negate":
        return names_in_condition(condition[1])
    names = []
    for part in condition[1]:
        names.extend(names_in_condition(part))
    return names


def write_condition(condition):
    """Return the written form of a condition other than ("all",)."""
    if condition[0] == "test":
        _, left, relation, right = condition
        return " ".join([write_operand(left), relation, write_operand(right)])
    if condition[0] == "negate":
        return "not " + write_part("negate", condition[1])
    word, parts = condition
    between = " " + word + " "
    return between.join([write_part(word, part) for part in parts])


def write_part(whole, part):
    """Return the written form of a part of a condition, in brackets where it needs them."""
    if part[0] in BRACKETED[whole]:
        return "(" + write_condition(part) + ")"
    return write_condition(part)


def write_operand(operand):
    """Return the written form of a name or a value."""
    if operand[0] != "value":
        return write_name(operand)
    if isinstance(operand[1], str):
        return QUOTE + operand[1] + QUOTE
    return write_integer(operand[1])


def read_condition(tokens):
    """Return the condition that comes next."""
    return ConditionReader(tokens).condition()


class ConditionReader:
    """The tokens of a condition, how many levels are open in it and how many tests it had."""

    def __init__(self, tokens):
        self.tokens = tokens
        self.levels = 0
        self.tests = 0

    def condition(self):
        """Return the conjunctions that come next, with or between them."""
        parts = [self.conjunction()]
        while self.tokens.is_next("word", "or"):
            self.tokens.take()
            parts.append(self.conjunction())
        return joined("or", parts)

    def conjunction(self):
        """Return the parts that come next, with and between them."""
        parts = [self.part()]
        while self.tokens.is_next("word", "and"):
            self.tokens.take()
            parts.append(self.part())
        return joined("and", parts)

    def part(self):
        """Return the negated part, the condition in brackets or the test that comes next."""
        if self.tokens.is_next("word", "not"):
            self.open_level()
            part = ("negate", self.part())
            self.levels -= 1
            return part
        if self.tokens.is_next("sign", "("):
            self.open_level()
            part = self.condition()
            self.close_bracket()
            self.levels -= 1
            return part
        return self.single_test()

    def open_level(self):
        """Take the token that opens a level."""
        column = self.tokens.take()[2]
        if self.levels == MOST_LEVELS:
            raise Fault(column, "too deep")
        self.levels += 1

    def close_bracket(self):
        """Take the closing bracket."""
        sort, content, column = self.tokens.take()
        if (sort, content) != ("sign", ")"):
            raise Fault(column, "bracket expected")

    def single_test(self):
        """Return the test that comes next."""
        column = self.tokens.look()[2]
        if self.tests == MOST_TESTS:
            raise Fault(column, "too many tests")
        self.tests += 1
        left = take_operand(self.tokens)
        relation = take_word(self.tokens, RELATIONS, "relation expected")
        return ("test", left, relation, take_operand(self.tokens))


def joined(word, parts):
    """Return the condition of several parts; a single one stands for itself."""
    if len(parts) == 1:
        return parts[0]
    return (word, tuple(parts))


def take_operand(tokens):
    """Return the name or the value that comes next."""
    sort, content, column = tokens.look()
    if sort == "sign":
        raise Fault(column, "operand expected")
    if sort in ("number", "quoted"):
        tokens.take()
        return ("value", content)
    return take_name(tokens)
