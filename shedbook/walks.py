"""Walks over all that a store holds, and the records of what a rule has left (points 72 to 74)."""

from shedbook.errors import Malformed, NotFound
from shedbook.images import unpack_store
from shedbook.segments import split_segments
from shedbook.standing import blurred, blurs, erases, forgets, is_held, is_protected, lets_go
from shedbook.sums import erases_sum, forgets_sum


def takes_field(rule, line):
    """Tell whether the rule is an "erase" rule that takes a field out of the line."""
    return erases(rule, line) and any([name == rule[2] for name, _ in line[4]])


def coarsens(rule, now, line):
    """Tell whether the rule is a "blur" rule that changes the line at the moment."""
    return blurs(rule, now, line) and blurred(rule, line) != line


def names_line(rule, now, line):
    """Tell whether the rule names a line of the store at the moment."""
    return names_in_backup(rule, line) or lets_go(rule, now, line) or coarsens(rule, now, line)


def names_in_backup(rule, line):
    """Tell whether the rule names a line of a backup."""
    return forgets(rule, line) or takes_field(rule, line)


def names_sum(rule, row):
    """Tell whether the rule names a kept sum."""
    return forgets_sum(rule, row) or erases_sum(rule, row)


def named_at(place, rule, now, items):
    """Return the list of those of the items at a place that the rule names."""
    if place[0] == "segment":
        return [line for line in items if names_line(rule, now, line)]
    if place[0] == "sums":
        return [row for row in items if names_sum(rule, row)]
    return [line for line in items if names_in_backup(rule, line)]


def stops(store):
    """Return the list of the places of a store in the order of a walk, each with its items."""
    found = [(("segment", segment), lines) for segment, lines in split_segments(store.lines())]
    found.append((("sums",), store.kept()))
    return found + [(("backup", name), store.backup_lines(name)) for name in store.backups()]


def make_record(store, rule):
    """Return the record of the walk for a rule; raise NotFound if the store does not have it."""
    if rule not in store.rules():
        raise NotFound()
    visits = []
    rest = []
    for place, items in stops(store):
        visits.append((place, len(items)))
        rest.extend([(place, item) for item in named_at(place, rule, store.now(), items)])
    return (rule, store.now(), visits, rest)


def is_item_protected(store, place, item):
    """Tell whether an item at a place of a store is protected."""
    if place[0] == "sums":
        return is_held(store.rules(), store.now(), item[4])
    return is_protected(store.rules(), store.now(), item)


def accepts_record(image, record):
    """Tell whether a record is that of the walk over the store with this image, and its rest is protected."""
    try:
        store = unpack_store(image)
        made = make_record(store, record[0])
    except (Malformed, NotFound):
        return False
    return record == made and all([is_item_protected(store, place, item) for place, item in made[3]])
