"""Questions and their written forms (points 30, 31, 34 and 39 to 43)."""

from shedbook.conditions import names_in_condition, read_condition, write_condition
from shedbook.errors import Malformed
from shedbook.shapes import columns_of, names_in_shape, read_groups, read_rows, write_shape
from shedbook.tokens import Fault, Tokens, check_end, take_kind, take_number, take_word
from shedbook.values import write_integer

GREATEST_SPAN = 9999
GREATEST_COUNT = 999
FEWEST_KINDS_IN_CHAINS = 2
MOST_KINDS_IN_CHAINS = 4
ALL = ("all",)

# The lines of a text have the numbers of point 39: by the words with which they begin,
# and by the number of the line before, which is 0 at first.
LINES = {"of": 1, "pairs": 1, "chains": 1, "where": 2, "rows": 3, "groups": 3, "order": 4, "first": 5}
LINES_BEHIND = ((1,), (2, 3), (3,), (4, 5), (5,), ())


class BadQuestion(Malformed):
    """A text is no question: where it is wrong, and why."""

    def __init__(self, line, column, reason):
        self.line = line
        self.column = column
        self.reason = reason


def source_kinds(source):
    """Return the list of the kinds of a source, in its order."""
    if source[0] == "of":
        return [source[1]]
    if source[0] == "pairs":
        return [source[1], source[2]]
    return list(source[1])


def kinds_of(question):
    """Return the list of the kinds of a question, in ascending order, without duplicates."""
    return sorted(set(source_kinds(question[0])))


def names_of(question):
    """Return the list of the names in the condition and the shape of a question."""
    return names_in_condition(question[1]) + names_in_shape(question[2])


def shows_subject(question):
    """Tell whether a question shows a subject."""
    return any([word == "subject" for _, word in names_of(question)])


def write_question(question):
    """Return the written form of a question."""
    source, condition, shape, order, most = question
    lines = [write_source(source)]
    if condition != ALL:
        lines.append("where " + write_condition(condition))
    lines.append(write_shape(shape))
    if order != ():
        lines.append("order " + write_integer(order[0]) + " " + order[1])
    if most != 0:
        lines.append("first " + write_integer(most))
    return "\n".join(lines)


def write_source(source):
    """Return the written form of a source."""
    if source[0] == "of":
        return "of " + source[1]
    return " ".join([source[0]] + source_kinds(source) + [write_integer(source[-1])])


def read_question(text):
    """Return the question that the text reads as; raise BadQuestion if there is none."""
    parts = [(), ALL, (), (), 0]
    texts = text.split("\n")
    latest = 0
    for k in range(len(texts)):
        try:
            latest, part = read_part(texts[k], latest, parts[2])
        except Fault as fault:
            raise BadQuestion(k + 1, fault.column, fault.reason) from None
        parts[latest - 1] = part
    if latest < 3:
        raise BadQuestion(len(texts) + 1, 1, "missing line")
    return tuple(parts)


def read_part(text, latest, shape):
    """Return the number of a line and the part of the question that it tells."""
    tokens = Tokens(text)
    number = line_number(tokens, latest)
    word = tokens.take()[1]
    part = read_rest(word, tokens, shape)
    check_end(tokens)
    return (number, part)


def line_number(tokens, latest):
    """Return the number of a line, which may stand behind the latest one."""
    if tokens.is_done():
        raise Fault(1, "unknown line")
    sort, word, column = tokens.look()
    if sort != "word" or LINES.get(word, 0) not in LINES_BEHIND[latest]:
        raise Fault(column, "unknown line")
    return LINES[word]


def read_rest(word, tokens, shape):
    """Return the part that a line with this first word tells, for rows of this shape."""
    if word == "where":
        return read_condition(tokens)
    if word == "rows":
        return read_rows(tokens)
    if word == "groups":
        return read_groups(tokens)
    if word == "order":
        return read_order(tokens, shape)
    if word == "first":
        return take_number(tokens, 1, GREATEST_COUNT, "invalid count")
    return read_source(word, tokens)


def read_source(word, tokens):
    """Return the source with this first word."""
    if word == "of":
        return ("of", take_kind(tokens))
    if word == "pairs":
        kind = take_kind(tokens)
        other = take_kind(tokens)
        return ("pairs", kind, other, take_span(tokens))
    kinds = read_kinds_of_chains(tokens)
    return ("chains", kinds, take_span(tokens))


def read_kinds_of_chains(tokens):
    """Return the tuple of the kinds that come next."""
    kinds = []
    while len(kinds) < FEWEST_KINDS_IN_CHAINS or tokens.is_word_next():
        if len(kinds) == MOST_KINDS_IN_CHAINS:
            raise Fault(tokens.look()[2], "too many kinds")
        kinds.append(take_kind(tokens))
    return tuple(kinds)


def take_span(tokens):
    """Return the span that comes next."""
    return take_number(tokens, 0, GREATEST_SPAN, "invalid span")


def read_order(tokens, shape):
    """Return the order whose column and direction come next."""
    column = take_number(tokens, 0, columns_of(shape) - 1, "invalid column")
    return (column, take_word(tokens, ("up", "down"), "direction expected"))
