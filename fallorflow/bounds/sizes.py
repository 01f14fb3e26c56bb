"""Sizings: how great the arguments of calls are at most, by the sizes of parameters.

A told size (c0, c1, ..) has a number for each parameter of the function that
calls, and one without any; of what is told as "outside" it is None.
"""
from fallorflow.base.checks import is_long_row
from fallorflow.base.plain import added, grown, scaled, unit
from fallorflow.lots.judges import is_sum_for


def _is_plain(many, argument):
    # Whether an argument has no number at unknowns and results.
    return not any(argument[many + 1:])


def _lines(many):
    # Nothing, and each parameter and its opposite.
    found = [(0,) * (many + 1)]
    for at in range(many):
        found.extend([unit(at, many), scaled(-1, unit(at, many))])
    return found


def _further(told, argument, line):
    # The least number that is to be added to a line for both of its sums, or None.
    found = []
    for side in (-1, 1):
        least = told.least(added(grown(line, told.many), scaled(side, argument)))
        if least is None:
            return None
        found.append(-(least[0] // least[1]))
    return max(found)


def _led(told, many, argument):
    """The form that leads an argument: a number, or as little as can be beyond a parameter or its opposite."""
    best = None
    for line in _lines(many):
        further = _further(told, argument, line)
        if further is not None:
            if not any(line):
                return (further, *line[1:])
            if best is None or max(0, further) < max(0, best[0]):
                best = (further, *line[1:])
    return best


def _entry(told, many, argument):
    if _is_plain(many, argument):
        return ("plain",)
    if not told.is_open():
        shown = told.some_sum()
        return ("led", (0,) * (many + 1), shown, shown)
    form = _led(told, many, argument)
    if form is None:
        return ("outside",)
    over = grown(form, told.many)
    one, other = [told.sum_for(added(over, scaled(side, argument))) for side in (-1, 1)]
    return ("led", form, one, other)


def sizing_of(lot):
    """A sizing for a lot of all call edges."""
    found = []
    for edge in lot.edges:
        told = lot.told[edge]
        many = lot.sizes[told.source]
        found.append(tuple([_entry(told, many, argument) for argument in told.arguments]))
    return tuple(found)


def _is_entry(told, many, argument, value):
    if not isinstance(value, tuple) or not value or not isinstance(value[0], str):
        return False
    if value[0] != "led" or len(value) != 4:
        return value == ("outside",) or (value == ("plain",) and _is_plain(many, argument))
    _, form, one, other = value
    if not is_long_row(many + 1, form):
        return False
    over = grown(form, told.many)
    for side, shown in ((-1, one), (1, other)):
        if not is_sum_for(told.many, told.rows, added(over, scaled(side, argument)), shown):
            return False
    return True


def is_sizing_for(lot, value):
    """Whether the value is a sizing for a lot of all call edges."""
    if not isinstance(value, tuple) or len(value) != len(lot.edges):
        return False
    for edge, entries in zip(lot.edges, value):
        told = lot.told[edge]
        many = lot.sizes[told.source]
        if not isinstance(entries, tuple) or len(entries) != len(told.arguments):
            return False
        if not all([_is_entry(told, many, argument, entry) for argument, entry in zip(told.arguments, entries)]):
            return False
    return True


def _told_size(many, argument, entry):
    if entry[0] == "outside":
        return None
    first, *others = argument[:many + 1] if entry[0] == "plain" else entry[1]
    if entry[0] == "led" and first < 0:
        first = 0
    return tuple([abs(number) for number in (first, *others)])


def told_sizes(lot, sizes):
    """The dict from the pairs (edge, argument) of a lot to their told sizes by a sizing."""
    found = {}
    for edge, entries in zip(lot.edges, sizes):
        told = lot.told[edge]
        for at, (argument, entry) in enumerate(zip(told.arguments, entries)):
            found[(edge, at)] = _told_size(lot.sizes[told.source], argument, entry)
    return found
