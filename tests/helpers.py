"""What several tests need: sample lines and rules, and spoiled texts."""

import random

LETTERS = "abcdefghijklmnopqrstuvwxyz"
NO_WORDS = ("", "a" * 13, "Ab", "a1", "a b", "a_b", " a", "a ", "-", "a=", "a,b", "{", "~")
NUMBERS = (-999999, -999998, -1001, -7, -1, 0, 1, 6, 63, 64, 127, 128, 999998, 999999)
WORDS = ("a", "ab", "abc", "b", "lund", "z", "abcdefghijkl")
KINDS = ("sale", "visit")
SUBJECTS = ("anna", "bo")
NAMES = ("age", "cost", "town")


def random_value(rng):
    if rng.random() < 0.3:
        return rng.choice(WORDS)
    return rng.choice([rng.choice(NUMBERS), rng.randint(-50, 50)])


def random_fields(rng, names=NAMES):
    chosen = sorted(rng.sample(names, rng.randint(0, len(names))))
    return tuple([(name, random_value(rng)) for name in chosen])


def random_line(rng, most_time=9999):
    serial = rng.choice([0, 1, 2, 127, 128, 9999])
    time = rng.randint(0, most_time)
    return (time, rng.choice(KINDS), rng.choice(SUBJECTS), serial, random_fields(rng))


def random_rule(rng, most=40):
    kind, subject, name = rng.choice(KINDS), rng.choice(SUBJECTS), rng.choice(NAMES)
    return rng.choice([
        ("keep", kind, rng.randint(0, most)),
        ("must", kind, rng.randint(1, most)),
        ("blur", kind, name, rng.choice([2, 3, 4, 6, 10, 12, 100, 1000]), rng.randint(0, most)),
        ("hold", subject, rng.randint(1, most)),
        ("forget", subject, rng.randint(0, most)),
        ("erase", kind, name, rng.randint(0, most)),
        ("sum", kind, name, rng.randint(1, 999)),
    ])


def seeded(seed):
    return random.Random(seed)


def spoiled_lists(items, inserts):
    """Return lists that differ from a list by one small change, and the list itself nowhere."""
    found = [items[:k] for k in range(len(items))]
    for k in range(len(items)):
        found.append(items[:k] + items[k + 1:])
        found.append(items[:k + 1] + items[k:])
        found.append(items[:k] + items[k + 1:k + 2] + items[k:k + 1] + items[k + 2:])
        found.extend([items[:k] + [item] + items[k + 1:] for item in inserts])
    for k in range(len(items) + 1):
        found.extend([items[:k] + [item] + items[k:] for item in inserts])
    return [item for item in found if item != items]


def spoiled_texts(text, inserts=" ,=:(){}-+_0179abzA"):
    """Return texts that differ from a text by one small change, and the text itself nowhere."""
    return ["".join(marks) for marks in spoiled_lists(list(text), list(inserts))]


def raises(error, function, *arguments):
    """Tell whether the call raises just this error; other errors go on."""
    try:
        function(*arguments)
    except error as caught:
        return caught.__class__ is error
    return False


def sign(first, second):
    return (first > second) - (first < second)


def check_unshared(case, find):
    """Check that the lists that a call returns can be changed without effect on what it returns later."""
    first, second = find(), find()
    wanted = list(second)
    case.assertIsNot(first, second)
    first.append("x")
    first.reverse()
    case.assertEqual(second, wanted)
    case.assertEqual(find(), wanted)
    second.clear()
    case.assertEqual(find(), wanted)
