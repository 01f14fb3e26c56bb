"""Keeps that are inductive, what holds in runs, and the greatest keep within candidates."""
from fallorflow.base.plain import at_vector, first_below, put, unit
from fallorflow.errors import InvalidKeep, InvalidOperation, TooMany
from fallorflow.hold.duties import all_duties, fixed_rows, is_duty, lot_at, lot_of, lots_ahead, many_duties
from fallorflow.hold.duties import parts_of, rows_at, sites, values_at
from fallorflow.hold.growth import Growth
from fallorflow.lots.answers import followed_each
from fallorflow.lots.judges import is_point_for, is_sum_for
from fallorflow.rules.machine import events_of
from fallorflow.rules.system import MAX_KEPT, check_keep, check_system, is_keep

MOST_DUTIES = 400


def check_duties(system, keep):
    """Refuse a keep with too many duties."""
    if many_duties(system, keep) > MOST_DUTIES:
        raise TooMany(MOST_DUTIES)


def duties(system, keep):
    """The ascending tuple of the duties of a keep."""
    check_system(system)
    check_keep(system, keep)
    check_duties(system, keep)
    return tuple(all_duties(system, keep))


def duty_parts(system, keep, duty):
    """The triple (many, rows, form) of a duty."""
    check_system(system)
    check_keep(system, keep)
    if not is_duty(system, keep, duty):
        raise InvalidOperation("not a duty of the keep")
    check_duties(system, keep)
    return parts_of(system, keep, duty)


def _site_parts(system, keep, site):
    # How many values a site has, its rows, and the forms of its duties.
    many, rows = rows_at(system, keep, site)
    values = values_at(system, site, many)
    return (many, rows, [put(row, values, many) for row in lot_of(keep, lot_at(system, site))])


def inductive(system, keep):
    """The sums for all duties, or the first duty that does not follow, and a point."""
    check_system(system)
    check_keep(system, keep)
    check_duties(system, keep)
    sums = []
    for site in sites(system):
        many, rows, forms = _site_parts(system, keep, site)
        for at, (word, found) in enumerate(followed_each(many, rows, forms)):
            if word == "escapes":
                return ("not", (*site, at), found)
            sums.append(found)
    return ("inductive", tuple(sums))


def are_sums_for(system, keep, value):
    """Whether the value is a tuple of a sum for each duty of a keep, in their sequence."""
    if not isinstance(value, tuple):
        return False
    at = 0
    for site in sites(system):
        many, rows, forms = _site_parts(system, keep, site)
        for form in forms:
            if at == len(value) or not is_sum_for(many, rows, form, value[at]):
                return False
            at = at + 1
    return at == len(value)


def _does_show(system, keep, duty, point):
    # Whether a point shows that a duty does not follow.
    if not is_duty(system, keep, duty):
        return False
    many, rows, form = parts_of(system, keep, duty)
    return is_point_for(many, rows, point) and at_vector(form, point) < 0


def is_inductive_paper(system, keep, value):
    """Whether the value shows that the keep is inductive, or that it is not."""
    check_system(system)
    check_keep(system, keep)
    check_duties(system, keep)
    if not isinstance(value, tuple) or not value or not isinstance(value[0], str):
        return False
    if value[0] == "inductive":
        return len(value) == 2 and are_sums_for(system, keep, value[1])
    return value[0] == "not" and len(value) == 3 and _does_show(system, keep, value[1], value[2])


def events(system, inputs, choices):
    """The calls that are made and that end in a run, in sequence."""
    found = []
    for event in events_of(system, inputs, choices):
        found.append(("enter", *event[2:]) if event[0] == "enter" else event)
    return tuple(found)


def first_break(system, keep, inputs, choices):
    """The first event of a run at which a row of its function is below 0, and this row, or None."""
    check_system(system)
    check_keep(system, keep)
    for index, event in enumerate(events(system, inputs, choices)):
        if event[0] == "enter":
            at = first_below(keep[0][event[1]], event[2])
        else:
            at = first_below(keep[1][event[1]], (*event[2], event[3]))
        if at is not None:
            return (index, at)
    return None


def _is_some(lot, other):
    # Whether the rows of one lot stand in another one, in their sequence.
    at = 0
    for row in other:
        if at < len(lot) and lot[at] == row:
            at = at + 1
    return at == len(lot)


def is_within(system, keep, value):
    """Whether the value is a keep within another one."""
    check_system(system)
    check_keep(system, keep)
    if not is_keep(system, value):
        return False
    for side in (0, 1):
        if not all([_is_some(lot, other) for lot, other in zip(value[side], keep[side])]):
            return False
    return True


def check_candidates(system, keep):
    """Refuse what is no keep in each lot of which all rows are unlike."""
    check_keep(system, keep)
    for lot in (*keep[0], *keep[1]):
        if len({row: True for row in lot}) < len(lot):
            raise InvalidKeep("a row stands twice in a lot")


def greatest_of(system, keep):
    """What is left of candidates, nothing being asked of what is passed."""
    growth = Growth(system, keep)
    growth.settle()
    return growth


def greatest(system, keep):
    """The greatest keep within candidates, and a paper for it."""
    check_system(system)
    check_candidates(system, keep)
    check_duties(system, keep)
    growth = greatest_of(system, keep)
    return (growth.now(), (growth.paper(), tuple(growth.drops)))


def _without_row(system, keep, duty):
    side, function = lot_at(system, duty[:-1])
    lot = keep[side][function]
    lots = (*keep[side][:function], (*lot[:duty[-1]], *lot[duty[-1] + 1:]), *keep[side][function + 1:])
    return (lots, keep[1]) if side == 0 else (keep[0], lots)


def is_greatest_paper(system, keep, other, value):
    """Whether the value shows that another keep is the greatest one within candidates."""
    check_system(system)
    check_candidates(system, keep)
    check_keep(system, other)
    check_duties(system, keep)
    if not isinstance(value, tuple) or len(value) != 2 or not isinstance(value[1], tuple):
        return False
    left = keep
    for drop in value[1]:
        if not isinstance(drop, tuple) or len(drop) != 2 or not _does_show(system, left, drop[0], drop[1]):
            return False
        left = _without_row(system, left, drop[0])
    return left == other and are_sums_for(system, left, value[0])


def _united_lots(one, other):
    return tuple([(*lot, *[row for row in more if row not in lot]) for lot, more in zip(one, other)])


def united(system, one, first, other, second):
    """The union of two inductive keeps, and its sums, made of theirs."""
    check_system(system)
    for keep, sums in ((one, first), (other, second)):
        check_keep(system, keep)
        if not are_sums_for(system, keep, sums):
            raise InvalidOperation("not the sums of a paper that the keep is inductive")
    union = (_united_lots(one[0], other[0]), _united_lots(one[1], other[1]))
    if any([len(lot) > MAX_KEPT for lot in (*union[0], *union[1])]):
        raise TooMany(MAX_KEPT)
    check_duties(system, union)
    mine = dict(zip(all_duties(system, one), first))
    yours = dict(zip(all_duties(system, other), second))
    sums = []
    for site in sites(system):
        lot = lot_at(system, site)
        for at, row in enumerate(lot_of(union, lot)):
            if at < len(lot_of(one, lot)):
                key = (*site, at)
                sums.append(_longer(system, site, one, union, mine[key]))
            else:
                place = lot_of(other, lot).index(row)
                key = (*site, place)
                sums.append(_longer(system, site, other, union, yours[key]))
    return (union, tuple(sums))


def _longer(system, site, keep, union, told):
    # A sum by the rows of a keep, told by those of a greater one.
    scale, further, *numbers = told
    found = []
    for lot in lots_ahead(system, site):
        if lot is None:
            many = fixed_rows(system, site)
            found.extend(numbers[:many])
        else:
            rows, more = lot_of(keep, lot), lot_of(union, lot)
            many = len(rows)
            longer = [0 for _ in more]
            for row, number in zip(rows, numbers):
                longer[more.index(row)] = longer[more.index(row)] + number
            found.extend(longer)
        numbers = numbers[many:]
    return (scale, further, *found)


def usual(system):
    """The usual candidates: values from 0 on, differences from 0 on, values up to 0."""
    check_system(system)
    entries = tuple([_usual_rows(many) for _, many in system.functions])
    results = tuple([_usual_rows(many + 1) for _, many in system.functions])
    return (entries, results)


def _usual_rows(many):
    rows = [unit(at, many) for at in range(many)]
    for one in range(many):
        for other in range(many):
            if one != other:
                rows.append(tuple([mine - yours for mine, yours in zip(unit(one, many), unit(other, many))]))
    rows.extend([tuple([-number for number in unit(at, many)]) for at in range(many)])
    return tuple(rows[:MAX_KEPT])
