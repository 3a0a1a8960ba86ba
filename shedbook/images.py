"""The image of a store: one list of bytes for all that it has (points 67 and 68)."""

from shedbook.errors import Malformed
from shedbook.lines import GREATEST_TIME
from shedbook.questions import BadQuestion, read_question
from shedbook.rules import FORMS, is_consistent, is_rule
from shedbook.schemas import is_schema
from shedbook.segments import (Reader, pack_integer, pack_natural, pack_segment, pack_value, pack_word,
                               split_segments, unpack_segment)
from shedbook.store import store_of
from shedbook.sums import first_time, key_of, totals_in
from shedbook.texts import is_ascending
from shedbook.values import is_number

SORTS = ("int", "word")
FIRST_ENTRIES = ("blur", "erase", "forget", "hold", "keep", "must", "sum")
# The characters of written questions: the place of each one is its byte.
MARKS = "\n !\"#$&'()*+,-./0123456789:;<=>?@ABCDEFGHIJKLMNOPQRSTUVWXYZ[\\]^_`abcdefghijklmnopqrstuvwxyz{|}~"
# No written form of a question is longer, and the reader of questions takes no longer text.
LONGEST_TEXT = 2000


def pack_all(parts):
    """Return the count of the packed parts and their bytes, one behind the other."""
    data = pack_natural(len(parts))
    for part in parts:
        data.extend(part)
    return data


def pack_column(column):
    """Return the bytes of a column."""
    name, sort, default = column
    return pack_word(name) + [SORTS.index(sort)] + pack_value(default)


def pack_schema(kind, columns):
    """Return the bytes of a schema."""
    return pack_word(kind) + pack_all([pack_column(column) for column in columns])


def pack_rule(rule):
    """Return the bytes of a rule."""
    data = [FIRST_ENTRIES.index(rule[0])]
    for entry in rule[1:]:
        data.extend(pack_value(entry))
    return data


def pack_numbered(segment, lines):
    """Return the bytes of a segment with its number and its length before it."""
    data = pack_segment(lines)
    return pack_natural(segment) + pack_natural(len(data)) + data


def pack_lines(lines):
    """Return the bytes of the segments of the lines."""
    return pack_all([pack_numbered(segment, own) for segment, own in split_segments(lines)])


def pack_kept(row):
    """Return the bytes of a kept sum."""
    kind, field, width, window, subject, count, total, least, greatest = row
    data = pack_word(kind) + pack_word(field) + pack_natural(width) + pack_natural(window) + pack_word(subject)
    return data + pack_natural(count) + pack_integer(total) + pack_integer(least) + pack_integer(greatest)


def pack_watch(name, text):
    """Return the bytes of a standing question."""
    return pack_word(name) + pack_all([[MARKS.index(mark)] for mark in text])


def pack_backup(name, lines):
    """Return the bytes of a backup."""
    return pack_word(name) + pack_lines(lines)


def pack_store(store):
    """Return the image of a store."""
    data = pack_natural(store.now())
    data.extend(pack_all([pack_schema(kind, store.schema(kind)) for kind in store.kinds()]))
    data.extend(pack_all([pack_rule(rule) for rule in store.rules()]))
    data.extend(pack_lines(store.lines()))
    data.extend(pack_all([pack_kept(row) for row in store.kept()]))
    data.extend(pack_all([pack_watch(name, text) for name, text in store.watched()]))
    data.extend(pack_all([pack_backup(name, store.backup_lines(name)) for name in store.backups()]))
    return data


def read_all(reader, read_one):
    """Return the list of the parts that come next behind their count."""
    many = reader.natural()
    return [read_one(reader) for _ in range(many)]


def read_choice(reader, choices):
    """Return that one of the choices whose place comes next as a byte."""
    place = reader.byte()
    if place >= len(choices):
        raise Malformed()
    return choices[place]


def read_column(reader):
    """Return the column that comes next."""
    name = reader.word()
    sort = read_choice(reader, SORTS)
    return (name, sort, reader.value())


def read_schema(reader):
    """Return the kind and the columns that come next."""
    kind = reader.word()
    columns = read_all(reader, read_column)
    if not is_schema(kind, columns):
        raise Malformed()
    return (kind, columns)


def read_rule(reader):
    """Return the rule that comes next."""
    first = read_choice(reader, FIRST_ENTRIES)
    rule = tuple([first] + [reader.value() for _ in FORMS[first]])
    if not is_rule(rule):
        raise Malformed()
    return rule


def read_rules(reader):
    """Return the list of the rules that come next: ascending and consistent."""
    rules = read_all(reader, read_rule)
    if not is_ascending(rules) or not is_consistent(rules):
        raise Malformed()
    return rules


def read_segment(reader):
    """Return the lines of the segment that comes next, whatever number stands before it."""
    reader.natural()
    length = reader.natural()
    return unpack_segment(reader.several(length))


def read_lines(reader, kinds):
    """Return the list of the lines that come next as segments; their kinds are among these."""
    lines = [line for own in read_all(reader, read_segment) for line in own]
    if not all([line[1] in kinds for line in lines]):
        raise Malformed()
    return lines


def read_row(reader):
    """Return the kept sum that comes next."""
    key = (reader.word(), reader.word(), reader.natural(), reader.natural(), reader.word())
    row = key + (reader.natural(), reader.integer(), reader.integer(), reader.integer())
    if not can_be_kept(row):
        raise Malformed()
    return row


def read_kept(reader):
    """Return the list of the kept sums that come next: ascending, at most one for each key."""
    kept = read_all(reader, read_row)
    if not is_ascending([key_of(row) for row in kept]):
        raise Malformed()
    return kept


def can_be_kept(row):
    """Tell whether lines and numbers can have made a kept sum of a rule."""
    count, total, least, greatest = totals_in(row)
    if count < 1 or not (is_number(least) and is_number(greatest)) or first_time(row) > GREATEST_TIME:
        return False
    # One number is the least and one is the greatest; the others lie between them.
    return least <= greatest and least * (count - 1) + greatest <= total <= least + greatest * (count - 1)


def read_mark(reader):
    """Return the character that comes next."""
    return read_choice(reader, MARKS)


def read_watch(reader):
    """Return the name and the question of the standing question that comes next."""
    name = reader.word()
    text = "".join(read_all(reader, read_mark))
    if len(text) > LONGEST_TEXT:
        raise Malformed()
    try:
        return (name, read_question(text))
    except BadQuestion:
        raise Malformed() from None


def read_store(reader):
    """Return the store whose parts come next, in their one form or not."""
    moment = reader.natural()
    schemas = {kind: columns for kind, columns in read_all(reader, read_schema)}
    rules = read_rules(reader)
    lines = read_lines(reader, schemas)
    kept = read_kept(reader)
    questions = {name: question for name, question in read_all(reader, read_watch)}
    many = reader.natural()
    saved = {}
    for _ in range(many):
        name = reader.word()
        saved[name] = read_lines(reader, schemas)
    return store_of(moment, schemas, rules, lines, kept, questions, saved)


def unpack_store(data):
    """Return the store with this image; raise Malformed if there is none."""
    store = read_store(Reader(data))
    # This bars all that stands in another order or form, is left over, or would not stand by the rules.
    if pack_store(store) != data:
        raise Malformed()
    return store
