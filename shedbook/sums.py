"""Sums of the numbers of lines that went, kept by windows of time (points 60 to 62 and 64).

A kept sum is a tuple (kind, field, width, window, subject, count, total, least, greatest).
"""

from shedbook.standing import is_held


def key_of(row):
    """Return the five parts with which a kept sum begins; no two have them all in common."""
    return row[:5]


def totals_in(row):
    """Return the count, the total, the least and the greatest of a kept sum."""
    return row[5:]


def window_of(line, width):
    """Return the window of a line for a width."""
    return line[0] // width


def first_time(row):
    """Return the first time of the window of a kept sum."""
    return row[3] * row[2]


def numbers_in(line, field):
    """Return the list of the one number that a line has in a field, or the empty list."""
    return [value for name, value in line[4] if name == field and not isinstance(value, str)]


def totals_of(number):
    """Return the count, the total, the least and the greatest of a single number."""
    return (1, number, number, number)


def joined(parts):
    """Return the totals of several totals together."""
    counts = [part[0] for part in parts]
    totals = [part[1] for part in parts]
    return (sum(counts), sum(totals), min([part[2] for part in parts]), max([part[3] for part in parts]))


def add_number(kept, line, field, width, number):
    """Return the ascending list of kept sums after a number was added for a line."""
    key = (line[1], field, width, window_of(line, width), line[2])
    parts = [totals_in(row) for row in kept if key_of(row) == key]
    others = [row for row in kept if key_of(row) != key]
    return sorted(others + [key + joined(parts + [totals_of(number)])])


def add_expired(rules, kept, lines):
    """Return the ascending list of kept sums after the "sum" rules added the numbers of lines that expired."""
    for line in lines:
        for rule in rules:
            if rule[0] == "sum" and rule[1] == line[1]:
                _, _, field, width = rule
                for number in numbers_in(line, field):
                    kept = add_number(kept, line, field, width, number)
    return list(kept)


def window_sums(rule, lines, kept):
    """Return the ascending list of the sums of a "sum" rule, a tuple for each window."""
    _, kind, field, width = rule
    found = {}
    for row in kept:
        if row[:3] == (kind, field, width):
            found.setdefault(row[3], []).append(totals_in(row))
    for line in lines:
        if line[1] == kind:
            for number in numbers_in(line, field):
                found.setdefault(window_of(line, width), []).append(totals_of(number))
    return [(window,) + joined(found[window]) for window in sorted(list(found))]


def forgets_sum(rule, row):
    """Tell whether the rule is a "forget" rule that names the kept sum."""
    return rule[0] == "forget" and rule[1] == row[4] and first_time(row) <= rule[2]


def erases_sum(rule, row):
    """Tell whether the rule is an "erase" rule that names the kept sum."""
    return rule[0] == "erase" and rule[1:3] == row[:2] and first_time(row) <= rule[3]


def goes(rules, now, row):
    """Tell whether the kept sum goes by the rules at the moment."""
    if ("sum",) + row[:3] not in rules or any([erases_sum(rule, row) for rule in rules]):
        return True
    return any([forgets_sum(rule, row) for rule in rules]) and not is_held(rules, now, row[4])


def kept_on(rules, now, kept):
    """Return the list of the kept sums that do not go by the rules at the moment."""
    return [row for row in kept if not goes(rules, now, row)]
