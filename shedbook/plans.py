"""Plans: paths to the lines with which matches can begin (points 47 to 50)."""

from shedbook.lines import GREATEST_TIME, sorted_lines
from shedbook.meaning import PLACES, cells_found, column_of, matches_from, rows_of, value_of
from shedbook.questions import kinds_of, source_kinds
from shedbook.schemas import sort_of

NO_TIMES = ("times", 1, 0)


def fixed_tests(condition):
    """Return the list of the tests that hold whenever the condition holds."""
    if condition[0] == "test":
        return [condition]
    found = []
    if condition[0] == "and":
        for part in condition[1]:
            found.extend(fixed_tests(part))
    return found


def paths(question):
    """Return the list of the paths of a question, each once."""
    found = [("kind",)]
    for test in fixed_tests(question[1]):
        path = path_of(test)
        if path is not None and path not in found:
            found.append(path)
    return found


def path_of(test):
    """Return the path that a fixed test gives, or None."""
    _, left, relation, right = test
    if left[0] != "this" or right[0] != "value":
        return None
    word, value = left[1], right[1]
    if word == "time":
        return None if isinstance(value, str) else path_of_times(relation, value)
    if relation != "is" or word == "serial":
        return None
    if word == "subject":
        return ("subject", value) if isinstance(value, str) else None
    return ("field", word, value)


def path_of_times(relation, number):
    """Return the path to the times that are in a relation to a number, or None."""
    if relation == "differs":
        return None
    low, high = number, number
    if relation == "below":
        low, high = 0, number - 1
    if relation == "above":
        low, high = number + 1, GREATEST_TIME
    low, high = max(low, 0), min(high, GREATEST_TIME)
    return ("times", low, high) if low <= high else NO_TIMES


def path_lines(path, question, schemas, index):
    """Return the ascending list of the lines to which a path leads."""
    kind = source_kinds(question[0])[0]
    if path[0] == "kind":
        return index.of_kind(kind)
    if path[0] == "subject":
        return index.of_subject(kind, path[1])
    if path[0] == "times":
        return index.of_times(kind, path[1], path[2])
    if is_in_fields(path, kind, schemas):
        return index.of_value(kind, path[1], path[2])
    name = ("this", path[1])
    return [line for line in index.of_kind(kind) if value_of(name, schemas, (line, line)) == path[2]]


def is_in_fields(path, kind, schemas):
    """Tell whether a line has the value of a path exactly if it has it in a field."""
    _, word, value = path
    column = column_of(schemas, kind, word)
    if column is None or word in PLACES:
        return False
    _, sort, default = column
    return sort == sort_of(value) and default != value


def best_path(question, schemas, index):
    """Return the first one of the paths that lead to the fewest lines."""
    found = paths(question)
    counts = [len(path_lines(path, question, schemas, index)) for path in found]
    return found[counts.index(min(counts))]


def lines_of_subject(question, subject, index):
    """Return the ascending list of the lines of a subject that have a kind of the question."""
    found = []
    for kind in kinds_of(question):
        found.extend(index.of_subject(kind, subject))
    return sorted_lines(found)


def run(question, schemas, index):
    """Return the answer for the lines of the index, by the best path."""
    found = []
    by_subject = {}
    for first in path_lines(best_path(question, schemas, index), question, schemas, index):
        subject = first[2]
        if subject not in by_subject:
            by_subject[subject] = lines_of_subject(question, subject, index)
        found.extend(matches_from(first, question[0], by_subject[subject]))
    return rows_of(question, cells_found(question, schemas, found))
