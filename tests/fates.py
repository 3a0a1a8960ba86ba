"""What becomes of lines, kept sums and lines of backups, by another way than the program."""


def expected_fields(rules, now, line):
    """Apply "erase" and "blur" rules by another way than the program: field by field."""
    found = []
    for name, value in line[4]:
        if [r for r in rules if r[:3] == ("erase", line[1], name) and r[3] >= line[0]]:
            continue
        for step in sorted({r[3] for r in rules if r[0] == "blur"}):
            if [r for r in rules if r[:4] == ("blur", line[1], name, step) and now >= r[4] + line[0]]:
                if isinstance(value, str):
                    value = value[:1]
                else:
                    while value > -999999 and value % step != 0:
                        value -= 1
        found.append((name, value))
    return tuple(found)


def expected_fate(rules, now, line):
    """Return what stands of a line and what of it expires, by points 10 to 12."""
    time, kind, subject = line[:3]
    if [r for r in rules if r[:2] == ("must", kind) and now < time + r[2]]:
        return (line, None)
    if [r for r in rules if r[:2] == ("hold", subject) and now < r[2]]:
        return (line, None)
    if [r for r in rules if r[:2] == ("forget", subject) and r[2] >= time]:
        return (None, None)
    left = line[:4] + (expected_fields(rules, now, line),)
    if [r for r in rules if r[:2] == ("keep", kind) and now >= time + r[2]]:
        return (None, left)
    return (left, None)


def is_kept_safe(rules, now, line):
    """Tell by point 10 whether a line is protected."""
    return bool([r for r in rules if r[:2] == ("must", line[1]) and now - line[0] < r[2]]
                + [r for r in rules if r[:2] == ("hold", line[2]) and now < r[2]])


def expected_in_backup(rules, now, line):
    """Return what is left of a line of a backup by point 65, or None."""
    if is_kept_safe(rules, now, line):
        return line
    if [r for r in rules if r[:2] == ("forget", line[2]) and r[2] >= line[0]]:
        return None
    erased = [r[2] for r in rules if r[:2] == ("erase", line[1]) and r[3] >= line[0]]
    return line[:4] + (tuple([field for field in line[4] if field[0] not in erased]),)


def expected_going(rules, now, row):
    """Tell by point 61 whether a kept sum goes, by its first five parts."""
    kind, field, width, window, subject = row[:5]
    start = window * width
    if ("sum", kind, field, width) not in rules:
        return True
    if [r for r in rules if r[:3] == ("erase", kind, field) and r[3] >= start]:
        return True
    forgotten = [r for r in rules if r[:2] == ("forget", subject) and r[2] >= start]
    return bool(forgotten) and not [r for r in rules if r[:2] == ("hold", subject) and r[2] > now]
