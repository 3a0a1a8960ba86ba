"""Packed forms by another way than the program."""

from tests.helpers import LETTERS


def natural(number):
    """Pack a natural number by another way than the program: from the highest digit."""
    if number < 128:
        return [number]
    return [number % 128 + 128] + natural(number // 128)


def word(text):
    return natural(len(text)) + [LETTERS.index(letter) + 1 for letter in text]


def joined(parts):
    return [byte for part in parts for byte in part]


def raw(words, times, kinds, subjects, serials, fields, many=None):
    """Pack columns without any check: times as differences, runs and fields with places."""
    data = natural(len(times) if many is None else many) + natural(len(words))
    data += joined([word(text) for text in words])
    data += joined([natural(time) for time in times])
    for place, length in kinds + subjects:
        data += natural(place) + natural(length)
    data += joined([natural(serial) for serial in serials])
    for row in fields:
        data += natural(len(row))
        for place, sort, number in row:
            data += natural(place) + [sort] + natural(number)
    return data


def runs(texts, words):
    found = []
    for text in texts:
        place = words.index(text)
        if found and found[-1][0] == place:
            found[-1] = (place, found[-1][1] + 1)
        else:
            found.append((place, 1))
    return found


def expected_pack(lines):
    """Pack a segment by another way than the program."""
    words = {}
    for _, kind, subject, _, fields in lines:
        for text in [kind, subject] + [part for field in fields for part in field]:
            words[text] = True
    words = sorted([text for text in words if isinstance(text, str)])
    times = [line[0] for line in lines]
    fields = []
    for line in lines:
        row = []
        for name, value in line[4]:
            if isinstance(value, str):
                row.append((words.index(name), 1, words.index(value)))
            elif value < 0:
                row.append((words.index(name), 0, -2 * value - 1))
            else:
                row.append((words.index(name), 0, 2 * value))
        fields.append(row)
    return raw(words, [now - before for before, now in zip([0] + times, times)],
               runs([line[1] for line in lines], words), runs([line[2] for line in lines], words),
               [line[3] for line in lines], fields)


def integer(number):
    return natural(2 * number if number >= 0 else -2 * number - 1)


def value(given):
    return [1] + word(given) if isinstance(given, str) else [0] + integer(given)


def counted(parts):
    """Return the count of the parts and then their bytes."""
    return natural(len(parts)) + joined(parts)


def segments(lines):
    """Return the bytes of the segments of ascending lines as they stand in an image."""
    parts = []
    for number in sorted({line[0] // 64 for line in lines}):
        data = expected_pack([line for line in lines if line[0] // 64 == number])
        parts.append(natural(number) + natural(len(data)) + data)
    return counted(parts)


def schema(kind, columns):
    sorts = ["int", "word"]
    return word(kind) + counted([word(name) + [sorts.index(sort)] + value(default) for name, sort, default in columns])


def rule(entries):
    firsts = "blur erase forget hold keep must sum".split()
    return [firsts.index(entries[0])] + joined([value(entry) for entry in entries[1:]])


def kept_sum(row):
    kind, field, width, window, subject, count, total, least, greatest = row
    return (word(kind) + word(field) + natural(width) + natural(window) + word(subject)
            + natural(count) + integer(total) + integer(least) + integer(greatest))


def question(text):
    """Return the bytes of the characters: the newline is 0, the space 1, and none stands for the percent sign."""
    codes = [0 if mark == "\n" else ord(mark) - 31 - (1 if ord(mark) > 37 else 0) for mark in text]
    return natural(len(text)) + codes


def image(moment, schemas, rules, lines, kept, asked, backups):
    """Return the image of a store with these parts: dicts of schemas, of written questions and of backups."""
    return (natural(moment)
            + counted([schema(kind, schemas[kind]) for kind in sorted(schemas)])
            + counted([rule(entries) for entries in rules])
            + segments(lines)
            + counted([kept_sum(row) for row in kept])
            + counted([word(name) + question(asked[name]) for name in sorted(asked)])
            + counted([word(name) + segments(backups[name]) for name in sorted(backups)]))
