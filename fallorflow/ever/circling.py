"""Rings of links and their rounds, nothing being asked of what is passed."""
from fallorflow.base.checks import is_from, is_row_within
from fallorflow.base.plain import at_values, first_below, put, unit, units


def is_ring_of(bounds, system, value):
    """Whether the value is a ring of a system, the bounds being those of links and of the numbers of picks."""
    most_links, most_pick = bounds
    if not isinstance(value, tuple) or not 1 <= len(value) <= most_links:
        return False
    if not all([_is_link(most_pick, system, link) for link in value]):
        return False
    # Each call leads to the function of the next link, the last one's to that of the first one.
    for link, further in zip(value, (*value[1:], value[0])):
        if system.rules[link[0]][4][0][0] != system.rules[further[0]][0]:
            return False
    return True


def _is_link(most_pick, system, value):
    if not isinstance(value, tuple) or len(value) != 2 or not is_from(0, len(system.rules) - 1, value[0]):
        return False
    function, unknowns, _, _, calls, _ = system.rules[value[0]]
    if not calls or not isinstance(value[1], tuple) or len(value[1]) != unknowns:
        return False
    return all([is_row_within(most_pick, system.functions[function][1] + 1, pick) for pick in value[1]])


def ring_function(system, ring):
    """The function of a ring."""
    return system.rules[ring[0][0]][0]


def link_parts(system, link):
    """The pair (rows, forms) of a link."""
    index, picks = link
    function, _, guard, _, calls, _ = system.rules[index]
    many = system.functions[function][1]
    values = (*units(many, many), *picks)
    rows = tuple([put(row, values, many) for row in guard])
    return (rows, tuple([put(form, values, many) for form in calls[0][1]]))


def round_by(system, ring):
    """The pair (rows, forms) of a ring's round."""
    many = system.functions[ring_function(system, ring)][1]
    rows, forms = [], units(many, many)
    for link in ring:
        more, behind = link_parts(system, link)
        rows.extend([put(row, forms, many) for row in more])
        forms = tuple([put(form, forms, many) for form in behind])
    return (tuple(rows), forms)


def shift_by(forms):
    """The tuple of the integers that the forms of a round add to the parameters, or None."""
    many = len(forms)
    if any([form[1:] != unit(at, many)[1:] for at, form in enumerate(forms)]):
        return None
    return tuple([form[0] for form in forms])


def gone_rounds(turn, values, most):
    """The pair (rounds, index) of how many rounds can be gone from values, and of the first row that breaks then;
    (most, None) if none does."""
    rows, forms = turn
    for number in range(most):
        at = first_below(rows, values)
        if at is not None:
            return (number, at)
        values = tuple([at_values(form, values) for form in forms])
    return (most, None)


def break_of(turn, values):
    """The same of a round that is a shift, without a bound, None if no row ever breaks."""
    rows, forms = turn
    shift = shift_by(forms)
    best = None
    for index, row in enumerate(rows):
        here, step = at_values(row, values), sum([number * part for number, part in zip(row[1:], shift)])
        if here < 0:
            found = (0, index)
        elif step < 0:
            found = (here // -step + 1, index)
        else:
            continue
        if best is None or found < best:
            best = found
    return best


def paper_by_shift(inputs, choices, ring, turn):
    """The ever paper of a run and a ring whose round is a shift that never breaks: the lot is the rows of the round."""
    rows, forms = turn
    shift = shift_by(forms)
    many = len(rows)
    sums = [(1, 0, *unit(at, many)[1:]) for at in range(many)]
    for at, row in enumerate(rows):
        step = sum([number * part for number, part in zip(row[1:], shift)])
        sums.append((1, step, *unit(at, many)[1:]))
    return (inputs, choices, ring, rows, tuple(sums))


def picked(system, link, values):
    """The choice that a link makes at values, and the values of its call."""
    index, picks = link
    unknowns = tuple([at_values(pick, values) for pick in picks])
    known = values + unknowns
    return ((index, unknowns), tuple([at_values(form, known) for form in system.rules[index][4][0][1]]))
