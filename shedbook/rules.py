"""Rules, their order, which of them clash, and their written forms (points 9 and 13 to 15)."""

from shedbook.errors import InvalidRule, Malformed
from shedbook.texts import read_value, write_value
from shedbook.values import is_word

# What follows the first entry of a rule: words, and integers with their least and greatest value.
FORMS = {
    "blur": ("word", "word", (2, 1000), (0, 9999)),
    "erase": ("word", "word", (0, 9999)),
    "forget": ("word", (0, 9999)),
    "hold": ("word", (1, 9999)),
    "keep": ("word", (0, 9999)),
    "must": ("word", (1, 9999)),
    "sum": ("word", "word", (1, 999)),
}


def is_rule(rule):
    """Tell whether a tuple of strings and integers is a rule."""
    if len(rule) == 0 or rule[0] not in FORMS:
        return False
    form = FORMS[rule[0]]
    entries = rule[1:]
    if len(entries) != len(form):
        return False
    return all([fits(entries[k], form[k]) for k in range(len(form))])


def fits(entry, wanted):
    """Tell whether an entry of a rule is what its form wants there."""
    if wanted == "word":
        return is_word(entry)
    least, greatest = wanted
    return isinstance(entry, int) and least <= entry <= greatest


def check_rule(rule):
    """Raise InvalidRule if the tuple is not a rule."""
    if not is_rule(rule):
        raise InvalidRule()


def rule_key(rule):
    """Return a tuple; the tuples of two rules compare as the rules do."""
    # Rules with the same first entry have the same sorts of entries, so a rule is its own key.
    return rule


def clash(first, second):
    """Tell whether two rules clash; a rule does not clash with itself."""
    if first == second or first[1] != second[1]:
        return False
    # Sorted, a "keep" rule stands before a "must" rule.
    low, high = sorted([first, second], key=rule_key)
    if low[0] == "keep" and high[0] == "must":
        return low[2] < high[2]
    if low[0] != high[0]:
        return False
    if low[0] == "keep" or low[0] == "must":
        return True
    if low[0] == "sum":
        return low[2] == high[2]
    return low[0] == "blur" and low[2] == high[2] and do_steps_clash(low[3], high[3])


def do_steps_clash(step, other):
    """Tell whether two steps are equal or neither is a multiple of the other one."""
    if step == other:
        return True
    return step % other != 0 and other % step != 0


def is_consistent(rules):
    """Tell whether no two rules of the list clash."""
    return not any([clash(first, second) for first in rules for second in rules])


def write_rule(rule):
    """Return the written form of a rule."""
    return " ".join([write_value(entry) for entry in rule])


def read_rule(text):
    """Return the rule with this written form; raise Malformed if there is none."""
    rule = tuple([read_value(part) for part in text.split(" ")])
    if not is_rule(rule):
        raise Malformed()
    return rule
