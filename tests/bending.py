"""Papers bent at one spot: what is put there, left out, put twice, exchanged."""
ODD = [None, True, False, "1", "", [], {}, (), 1.5, [1], (0,), 10 ** 90, -10 ** 90]


def spots(value, path=()):
    """The paths to all parts of nested tuples."""
    yield path
    if isinstance(value, tuple):
        for at, part in enumerate(value):
            yield from spots(part, (*path, at))


def part_at(value, path):
    for at in path:
        value = value[at]
    return value


def put_at(value, path, part):
    if not path:
        return part
    at, *rest = path
    return (*value[:at], put_at(value[at], rest, part), *value[at + 1:])


def bends_of(part):
    """What can stand in the place of a part."""
    found = list(ODD)
    if isinstance(part, tuple):
        found += [list(part), dict(enumerate(part)), (*part, 0), (*part, None), (part,)]
        for at in range(len(part)):
            found += [part[:at] + part[at + 1:], part[:at + 1] + part[at:]]
            if at:
                found.append((*part[:at - 1], part[at], part[at - 1], *part[at + 1:]))
    elif isinstance(part, int) and not isinstance(part, bool):
        found += [part + 1, part - 1, -part, 2 * part, part + 10 ** 80, str(part), (part,), float(part) if abs(part) < 99 else None]
        if part in (0, 1):
            found.append(part == 1)
    return found


def bent(draw, value, many):
    """Some bent papers, the spots and bends being drawn."""
    paths = list(spots(value))
    for path in draw.sample(paths, min(many, len(paths))):
        for part in draw.sample(bends_of(part_at(value, path)), 4):
            yield put_at(value, path, part)


def longer(value, times):
    """All integers of nested tuples, so many times; other things as they are."""
    if isinstance(value, tuple):
        return tuple(longer(part, times) for part in value)
    return value * times if type(value) is int else value
