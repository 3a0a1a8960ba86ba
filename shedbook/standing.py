"""What a consistent list of rules leaves of lines at a moment (points 10 to 12, 16 and 65)."""

from shedbook.lines import sorted_lines
from shedbook.rules import rule_key
from shedbook.values import GREATEST_NUMBER


def age_of(now, line):
    """Return the age of a line at a moment; it may be negative."""
    return now - line[0]


def holds_on_to(rule, now, subject):
    """Tell whether the rule is a "hold" rule that protects the subject at the moment."""
    return rule[0] == "hold" and rule[1] == subject and now < rule[2]


def is_held(rules, now, subject):
    """Tell whether a "hold" rule protects the subject at the moment."""
    return any([holds_on_to(rule, now, subject) for rule in rules])


def protects(rule, now, line):
    """Tell whether the rule protects the line at the moment."""
    if rule[0] == "must":
        return rule[1] == line[1] and age_of(now, line) < rule[2]
    return holds_on_to(rule, now, line[2])


def is_protected(rules, now, line):
    """Tell whether one of the rules protects the line at the moment."""
    return any([protects(rule, now, line) for rule in rules])


def forgets(rule, line):
    """Tell whether the rule is a "forget" rule that names the line."""
    return rule[0] == "forget" and rule[1] == line[2] and line[0] <= rule[2]


def is_forgotten(rules, line):
    """Tell whether a "forget" rule names the line, protected or not."""
    return any([forgets(rule, line) for rule in rules])


def lets_go(rule, now, line):
    """Tell whether the rule is a "keep" rule that lets the line go at the moment."""
    return rule[0] == "keep" and rule[1] == line[1] and age_of(now, line) >= rule[2]


def is_let_go(rules, now, line):
    """Tell whether a "keep" rule lets the line go at the moment, protected or not."""
    return any([lets_go(rule, now, line) for rule in rules])


def erases(rule, line):
    """Tell whether the rule is an "erase" rule that concerns the line."""
    return rule[0] == "erase" and rule[1] == line[1] and line[0] <= rule[3]


def erased(rules, line):
    """Return the line without the fields that the "erase" rules take out of it."""
    time, kind, subject, serial, fields = line
    gone = [rule[2] for rule in rules if erases(rule, line)]
    rest = tuple([field for field in fields if field[0] not in gone])
    return (time, kind, subject, serial, rest)


def blurs(rule, now, line):
    """Tell whether the rule is a "blur" rule that concerns the line at the moment."""
    return rule[0] == "blur" and rule[1] == line[1] and age_of(now, line) >= rule[4]


def blurred_value(step, value):
    """Return what a "blur" rule with this step makes of a value."""
    if isinstance(value, str):
        return value[0]
    return max(value // step * step, -GREATEST_NUMBER)


def blurred(rule, line):
    """Return the line with the field of a "blur" rule coarsened."""
    time, kind, subject, serial, fields = line
    changed = [(name, blurred_value(rule[3], value) if name == rule[2] else value) for name, value in fields]
    return (time, kind, subject, serial, tuple(changed))


def coarsened(rules, now, line):
    """Return the line after all "erase" and "blur" rules that concern it at the moment."""
    left = erased(rules, line)
    concerned = [rule for rule in rules if blurs(rule, now, line)]
    for rule in sorted(concerned, key=rule_key):
        left = blurred(rule, left)
    return left


def left_of(rules, now, line):
    """Return the line that stands at the moment, or None."""
    if is_protected(rules, now, line):
        return line
    if is_forgotten(rules, line) or is_let_go(rules, now, line):
        return None
    return coarsened(rules, now, line)


def expired(rules, now, line):
    """Return what expires of the line at the moment, or None if it does not expire."""
    if is_protected(rules, now, line) or is_forgotten(rules, line):
        return None
    if not is_let_go(rules, now, line):
        return None
    return coarsened(rules, now, line)


def split_rules(rules):
    """Return the dict from the kinds and subjects that rules name to the lists of these rules."""
    found = {}
    for rule in rules:
        found.setdefault(rule[1], []).append(rule)
    return found


def rules_for(split, line):
    """Return the list of those of the split rules that may concern a line: they name its kind or its subject."""
    words = sorted(set([line[1], line[2]]))
    return [rule for word in words for rule in split.get(word, [])]


def standing_lines(rules, now, lines):
    """Return the list of what stands of the lines, in ascending order, without duplicates."""
    split = split_rules(rules)
    left = [left_of(rules_for(split, line), now, line) for line in lines]
    return sorted_lines([line for line in left if line is not None])


def expired_forms(rules, now, lines):
    """Return the list of the different forms that expire of the lines, in ascending order."""
    split = split_rules(rules)
    forms = [expired(rules_for(split, line), now, line) for line in lines]
    return sorted_lines([form for form in forms if form is not None])


def left_in_backup(rules, now, line):
    """Return what the rules leave of a line of a backup at the moment, or None."""
    if is_protected(rules, now, line):
        return line
    return None if is_forgotten(rules, line) else erased(rules, line)


def lines_in_backup(rules, now, lines):
    """Return the list of what is left of the lines of a backup, in ascending order, without duplicates."""
    split = split_rules(rules)
    left = [left_in_backup(rules_for(split, line), now, line) for line in lines]
    return sorted_lines([line for line in left if line is not None])
