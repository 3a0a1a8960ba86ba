"""What questions mean: matches, conditions, cells and answers (points 30 to 37, 44 and 45)."""

from shedbook.questions import source_kinds
from shedbook.schemas import seen_in
from shedbook.shapes import columns_before_sums
from shedbook.values import compare_values, value_key

# What compare_values tells of two values that are in a relation.
FITTING = {"is": (0,), "differs": (-1, 1), "below": (-1,), "above": (1,)}
# The places in a line of what no column of this name hides.
PLACES = {"time": 0, "subject": 2, "serial": 3}


def split_subjects(lines):
    """Return the dict from the subjects to the lists of their lines, in the order of the lines."""
    found = {}
    for line in lines:
        found.setdefault(line[2], []).append(line)
    return found


def matches(source, lines):
    """Return the list of the matches of a source in an ascending list of lines, in order."""
    kind = source_kinds(source)[0]
    by_subject = split_subjects(lines)
    found = []
    for line in lines:
        if line[1] == kind:
            found.extend(matches_from(line, source, by_subject[line[2]]))
    return found


def matches_from(first, source, lines):
    """Return the list of the matches that begin with a line of the first kind of a source, in order.

    The lines are those of the subject of the first line, in ascending order.
    """
    if source[0] == "of":
        return [(first, first)]
    if source[0] == "pairs":
        _, _, other, span = source
        latest = first[0] + span
        return [(first, last) for last in lines
                if last[1] == other and first[0] <= last[0] <= latest and last != first]
    _, kinds, span = source
    linked = chain_from(first, kinds, lines)
    if len(linked) < len(kinds) or linked[-1][0] > first[0] + span:
        return []
    return [(first, linked[-1])]


def chain_from(first, kinds, lines):
    """Return the list of the lines of the chain that begins with a line, as far as it goes."""
    linked = [first]
    # The next line has a later time, so it stands behind the latest one: one pass finds the chain.
    for line in lines:
        if len(linked) < len(kinds) and line[1] == kinds[len(linked)] and line[0] > linked[-1][0]:
            linked.append(line)
    return linked


def column_of(schemas, kind, word):
    """Return the column with this name in the schema of a kind, or None."""
    for column in schemas.get(kind, []):
        if column[0] == word:
            return column
    return None


def value_of(name, schemas, match):
    """Return the value of a name for a match."""
    side, word = name
    line = match[0] if side == "this" else match[1]
    if word in PLACES:
        return line[PLACES[word]]
    column = column_of(schemas, line[1], word)
    return 0 if column is None else seen_in(column, line)


def operand_value(operand, schemas, match):
    """Return the value of a name or of a value in a condition."""
    if operand[0] == "value":
        return operand[1]
    return value_of(operand, schemas, match)


def holds(condition, schemas, match):
    """Tell whether a condition holds for a match."""
    if condition[0] == "all":
        return True
    if condition[0] == "test":
        _, left, relation, right = condition
        first = operand_value(left, schemas, match)
        second = operand_value(right, schemas, match)
        return compare_values(first, second) in FITTING[relation]
    if condition[0] == "negate":
        return not holds(condition[1], schemas, match)
    if condition[0] == "and":
        return all([holds(part, schemas, match) for part in condition[1]])
    return any([holds(part, schemas, match) for part in condition[1]])


def cells_of(question, schemas, match):
    """Return the tuple of the cells of a match."""
    shape = question[2]
    if shape[0] == "rows":
        return tuple([value_of(name, schemas, match) for name in shape[1]])
    _, width, names, sums = shape
    cells = [] if width == 0 else [match[0][0] // width * width]
    cells.extend([value_of(name, schemas, match) for name in names])
    for total in sums:
        cells.append(0 if total[0] == "count" else value_of(total[1], schemas, match))
    return tuple(cells)


def cells_found(question, schemas, found):
    """Return the list of the cells of those matches for which the condition holds."""
    return [cells_of(question, schemas, match) for match in found if holds(question[1], schemas, match)]


def row_key(row):
    """Return a list; the lists of two rows of equal length compare as the rows do."""
    return [value_key(value) for value in row]


def sorted_rows(rows):
    """Return the list of the rows in ascending order; equal rows stay."""
    return sorted(rows, key=row_key)


def sum_of(word, values):
    """Return the sum of a list of at least one value that goes by this word."""
    if word == "count":
        return len(values)
    if word == "sum":
        return sum([value for value in values if not isinstance(value, str)])
    if word == "least":
        return min(values, key=value_key)
    if word == "greatest":
        return max(values, key=value_key)
    return len(set(values))


def sums_of(sums, cells):
    """Return the tuple of the sums of a group, by the list of the cells that belong to the sums."""
    return tuple([sum_of(sums[k][0], [row[k] for row in cells]) for k in range(len(sums))])


def grouped(shape, cells):
    """Return the list of the rows of groups for a list of tuples of cells."""
    start = columns_before_sums(shape)
    groups = {}
    for row in cells:
        groups.setdefault(row[:start], []).append(row[start:])
    return [before + sums_of(shape[3], group) for before, group in groups.items()]


def rows_of(question, cells):
    """Return the answer that is made of a list of tuples of cells, in any order."""
    _, _, shape, order, most = question
    rows = sorted_rows(cells if shape[0] == "rows" else grouped(shape, cells))
    if order != ():
        rows = ordered(rows, order)
    return rows if most == 0 else rows[:most]


def ordered(rows, order):
    """Return the list of ascending rows in an order; rows that are equal in its column stay ascending."""
    column, direction = order
    if direction == "down":
        return sorted(rows, key=lambda row: value_key(row[column]), reverse=True)
    return sorted(rows, key=lambda row: value_key(row[column]))


def answer(question, schemas, lines):
    """Return the answer to a question for an ascending list of lines and a dict of schemas."""
    return rows_of(question, cells_found(question, schemas, matches(question[0], lines)))
