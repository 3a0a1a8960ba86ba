"""What the tests of questions need: random questions, schemas and lines, and plain answers by another way."""

KINDS = ("sale", "refund", "visit")
SUBJECTS = ("ann", "bo", "cy")
COLUMNS = ("cost", "town")
RELATIONS = ("is", "differs", "below", "above")
SUMS = ("count", "sum", "least", "greatest", "unlike")
SCHEMAS = {
    "sale": [("cost", "int", 0), ("reason", "word", "none"), ("serial", "int", 7), ("town", "word", "lund")],
    "refund": [("cost", "int", -5), ("subject", "word", "x"), ("time", "int", 3)],
}


def random_schemas(rng):
    schemas = {}
    for kind in KINDS:
        if rng.random() < 0.8:
            columns = [(name, "int", rng.randint(-2, 2)) if rng.random() < 0.5 else (name, "word", rng.choice("ab"))
                       for name in COLUMNS if rng.random() < 0.8]
            schemas[kind] = columns
    return schemas


def random_field_value(rng):
    return rng.randint(-2, 2) if rng.random() < 0.6 else rng.choice("ab")


def random_lines(rng, most=14, most_time=12):
    lines = []
    for _ in range(rng.randint(0, most)):
        fields = tuple([(name, random_field_value(rng)) for name in COLUMNS if rng.random() < 0.7])
        lines.append((rng.randint(0, most_time), rng.choice(KINDS), rng.choice(SUBJECTS), rng.randint(0, 2), fields))
    return plain_order(lines)


def plain_order(lines):
    """Return the lines in ascending order without duplicates."""
    def key(line):
        return line[:4] + (tuple([(name, isinstance(value, str), value) for name, value in line[4]]),)
    return sorted(set(lines), key=key)


def random_word(rng):
    return rng.choice(COLUMNS + COLUMNS + ("time", "serial", "subject", "other"))


def random_name(rng):
    return (rng.choice(("this", "this", "that")), random_word(rng))


def random_value(rng):
    return rng.choice([-3, -2, -1, 0, 1, 2, 5, 9999, 10000, "a", "b", "ann", "bo"])


def random_operand(rng):
    return random_name(rng) if rng.random() < 0.5 else ("value", random_value(rng))


def random_test(rng):
    if rng.random() < 0.6:
        return ("test", random_name(rng), rng.choice(RELATIONS), ("value", random_value(rng)))
    return ("test", random_operand(rng), rng.choice(RELATIONS), random_operand(rng))


def random_part(rng, levels):
    """Return a condition whose written form opens at most as many levels, with brackets around it."""
    choice = rng.random()
    if levels == 0 or choice < 0.5:
        return random_test(rng)
    if choice < 0.65:
        return ("negate", random_part(rng, levels - 1))
    parts = [random_part(rng, levels - 1) for _ in range(rng.choice((2, 2, 3)))]
    return (rng.choice(("and", "and", "or")), tuple(parts))


def count_tests(condition):
    if condition[0] == "test":
        return 1
    if condition[0] == "negate":
        return count_tests(condition[1])
    return sum([count_tests(part) for part in condition[1]])


def random_condition(rng, levels=3):
    if rng.random() < 0.2:
        return ("all",)
    condition = random_part(rng, levels)
    while count_tests(condition) > 12:
        condition = random_part(rng, levels)
    return condition


def random_source(rng):
    choice = rng.random()
    if choice < 0.4:
        return ("of", rng.choice(KINDS))
    span = rng.choice((0, 1, 2, 5, 9999))
    if choice < 0.7:
        return ("pairs", rng.choice(KINDS), rng.choice(KINDS), span)
    return ("chains", tuple([rng.choice(KINDS) for _ in range(rng.randint(2, 4))]), span)


def random_sum(rng):
    word = rng.choice(SUMS)
    return (word,) if word == "count" else (word, random_name(rng))


def random_shape(rng):
    if rng.random() < 0.5:
        return ("rows", tuple([random_name(rng) for _ in range(rng.randint(1, 6))]))
    names = tuple([random_name(rng) for _ in range(rng.choice((0, 1, 1, 2, 4)))])
    sums = tuple([random_sum(rng) for _ in range(rng.choice((1, 1, 2, 6)))])
    return ("groups", rng.choice((0, 0, 1, 3, 100, 9999)), names, sums)


def width_of_rows(shape):
    if shape[0] == "rows":
        return len(shape[1])
    return (1 if shape[1] > 0 else 0) + len(shape[2]) + len(shape[3])


def random_question(rng):
    shape = random_shape(rng)
    order = ()
    if rng.random() < 0.5:
        order = (rng.randrange(width_of_rows(shape)), rng.choice(("up", "down")))
    most = rng.choice((0, 0, 1, 2, 3, 999))
    return (random_source(rng), random_condition(rng), shape, order, most)


# The written form, by lists of tokens.

def plain_name(name):
    return name[1] if name[0] == "this" else "that." + name[1]


def plain_operand(operand):
    if operand[0] != "value":
        return plain_name(operand)
    return '"' + operand[1] + '"' if isinstance(operand[1], str) else str(operand[1])


def condition_tokens(condition, bracket):
    """Return the tokens; bracket tells for a part and its whole how many brackets stand around it."""
    if condition[0] == "test":
        return [plain_operand(condition[1]), condition[2], plain_operand(condition[3])]
    if condition[0] == "negate":
        return ["not"] + part_tokens("negate", condition[1], bracket)
    tokens = []
    for part in condition[1]:
        tokens += [condition[0]] + part_tokens(condition[0], part, bracket)
    return tokens[1:]


def part_tokens(whole, part, bracket):
    many = bracket(whole, part[0])
    return ["("] * many + condition_tokens(part, bracket) + [")"] * many


def plain_bracket(whole, part):
    pairs = [("and", "and"), ("and", "or"), ("negate", "and"), ("negate", "or"), ("or", "or")]
    return 1 if (whole, part) in pairs else 0


def question_tokens(question, bracket=plain_bracket):
    """Return the lists of the tokens of the lines."""
    source, condition, shape, order, most = question
    if source[0] == "chains":
        lines = [["chains"] + list(source[1]) + [str(source[2])]]
    else:
        lines = [[str(part) for part in source]]
    if condition != ("all",):
        lines.append(["where"] + part_tokens("", condition, bracket))
    names = [plain_name(name) for name in shape[1 if shape[0] == "rows" else 2]]
    if shape[0] == "rows":
        lines.append(["rows"] + names)
    else:
        by = ["by", str(shape[1])] if shape[1] > 0 else []
        sums = []
        for told in shape[3]:
            sums += [told[0]] + [plain_name(name) for name in told[1:]]
        lines.append(["groups"] + by + names + [":"] + sums)
    if order:
        lines.append(["order", str(order[0]), order[1]])
    if most:
        lines.append(["first", str(most)])
    return lines


def plain_text(question):
    """Return the written form of a question by another way than the program."""
    lines = [" ".join(tokens) for tokens in question_tokens(question)]
    return "\n".join(lines).replace("( ", "(").replace(" )", ")")


def loose_text(rng, question):
    """Return a text that reads as a question, with other spaces and further brackets."""
    def bracket(whole, part):
        return plain_bracket(whole, part) + rng.choice((0, 0, 0, 1))
    lines = []
    for tokens in question_tokens(question, bracket):
        text = " " * rng.randint(0, 2)
        for k in range(len(tokens)):
            text += tokens[k]
            close = k + 1 < len(tokens) and (tokens[k] in "():" or tokens[k + 1] in "():" or '"' in tokens[k])
            text += " " * rng.randint(0 if close or k + 1 == len(tokens) else 1, 3)
        lines.append(text)
    return "\n".join(lines)


# The answer, by trying all lines.

def plain_matches(source, lines):
    if source[0] == "of":
        return [(line, line) for line in lines if line[1] == source[1]]
    found = []
    for first in lines:
        for last in lines:
            if first[2] == last[2] and is_match(source, first, last, lines):
                found.append((first, last))
    return found


def is_match(source, first, last, lines):
    late = last[0] - first[0]
    if source[0] == "pairs":
        return (first[1], last[1]) == source[1:3] and first != last and 0 <= late <= source[3]
    if first[1] != source[1][0] or late > source[2]:
        return False
    # By point 33 a match ends with the first line among those with which such a chain can end.
    ends = [first]
    for kind in source[1][1:]:
        ends = [line for line in lines if line[1] == kind and line[2] == first[2]
                and any([line[0] > end[0] for end in ends])]
    return len(ends) > 0 and ends[0] == last


def plain_value(name, schemas, match):
    line = match[0 if name[0] == "this" else 1]
    if name[1] in ("time", "subject", "serial"):
        return line[("time", "", "subject", "serial").index(name[1])]
    for column, sort, default in schemas.get(line[1], []):
        if column == name[1]:
            value = dict(line[4]).get(column, default)
            return value if isinstance(value, int) == (sort == "int") else default
    return 0


def place_in_order(value):
    return (isinstance(value, str), value)


def plain_holds(condition, schemas, match):
    if condition[0] == "all":
        return True
    if condition[0] == "negate":
        return not plain_holds(condition[1], schemas, match)
    if condition[0] in ("and", "or"):
        held = [plain_holds(part, schemas, match) for part in condition[1]]
        return False not in held if condition[0] == "and" else True in held
    sides = []
    for side in (condition[1], condition[3]):
        value = side[1] if side[0] == "value" else plain_value(side, schemas, match)
        sides.append(place_in_order(value))
    left, right = sides
    return {"is": left == right, "differs": left != right, "below": left < right, "above": left > right}[condition[2]]


def plain_row_key(row):
    return tuple([place_in_order(value) for value in row])


def plain_sum(told, schemas, group):
    if told[0] == "count":
        return len(group)
    values = sorted([plain_value(told[1], schemas, match) for match in group], key=place_in_order)
    if told[0] == "sum":
        return sum([value for value in values if isinstance(value, int)])
    return {"least": values[0], "greatest": values[-1], "unlike": len(set(values))}[told[0]]


def plain_rows(question, schemas, found):
    """Return the rows of the matches, without order and most."""
    shape = question[2]
    if shape[0] == "rows":
        return [tuple([plain_value(name, schemas, match) for name in shape[1]]) for match in found]
    _, width, names, sums = shape
    groups = {}
    for match in found:
        window = (match[0][0] - match[0][0] % width,) if width else ()
        before = window + tuple([plain_value(name, schemas, match) for name in names])
        groups[before] = groups.get(before, []) + [match]
    return [before + tuple([plain_sum(told, schemas, groups[before]) for told in sums]) for before in groups]


def plain_answer(question, schemas, lines):
    """Return the answer by another way than the program."""
    source, condition, _, order, most = question
    found = [match for match in plain_matches(source, lines) if plain_holds(condition, schemas, match)]
    rows = sorted(plain_rows(question, schemas, found), key=plain_row_key)
    if order:
        column, direction = order
        values = sorted({row[column] for row in rows}, key=place_in_order)
        if direction == "down":
            values = values[::-1]
        rows = [row for value in values for row in rows if row[column] == value]
    return rows[:most] if most else rows
