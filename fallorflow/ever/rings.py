"""Rings of links that go round for ever, or break behind some rounds."""
from fallorflow.base.checks import is_from, is_long_lot, is_short_row
from fallorflow.base.plain import first_below, put
from fallorflow.errors import InvalidForm, InvalidNumber, InvalidOperation, Refused, TooMany
from fallorflow.ever.circling import break_of, gone_rounds, is_ring_of, paper_by_shift, picked, ring_function, round_by
from fallorflow.ever.circling import shift_by
from fallorflow.lots.judges import is_sum_for
from fallorflow.rules.machine import course_of, run
from fallorflow.rules.system import check_system

MOST_LINKS = 8
MOST_ROUNDS = 200
MOST_PICK = 1000
# How many choices, and how many rows of its lot, an ever paper has at most.
MOST_AHEAD = 400
MOST_LOT = 64


def _is_ring(system, value):
    return is_ring_of((MOST_LINKS, MOST_PICK), system, value)


def check_ring(system, ring):
    """Refuse what is no ring of a system."""
    if not _is_ring(system, ring):
        raise InvalidOperation("not a ring of the system")


def _check_values(system, ring, values):
    if not is_short_row(system.functions[ring_function(system, ring)][1], values):
        raise InvalidForm("not an integer for each parameter of the ring's function")


def is_ring(system, value):
    """Whether the value is a ring of the system."""
    check_system(system)
    return _is_ring(system, value)


def round_of(system, ring):
    """The pair of the rows and of the forms of a ring's round."""
    check_system(system)
    check_ring(system, ring)
    return round_by(system, ring)


def shift_of(system, ring):
    """The integers that a ring's round adds to the parameters, None if it is no shift."""
    return shift_by(round_of(system, ring)[1])


def rounds_from(system, ring, values, most):
    """How many rounds can be gone from values, at most so many, and the first row that breaks then, or None."""
    turn = round_of(system, ring)
    _check_values(system, ring, values)
    if not is_from(0, MOST_ROUNDS, most):
        raise InvalidNumber(most)
    return gone_rounds(turn, values, most)


def first_break(system, ring, values):
    """How many rounds can be gone from values, and the first row that breaks then; None if none ever does."""
    turn = round_of(system, ring)
    _check_values(system, ring, values)
    if shift_by(turn[1]) is None:
        raise Refused(("shift",))
    return break_of(turn, values)


def ever_or_break(system, inputs, choices, ring):
    """An ever paper of a run and a ring, or how many rounds can be gone behind the run, and the row that breaks."""
    standing = run(system, inputs, choices)
    check_ring(system, ring)
    if len(choices) > MOST_AHEAD:
        raise TooMany(MOST_AHEAD)
    if standing.call is None or standing.call[0] != ring_function(system, ring):
        raise Refused(("call",))
    turn = round_by(system, ring)
    if shift_by(turn[1]) is None:
        raise Refused(("shift",))
    found = break_of(turn, standing.call[1])
    if found is not None:
        return ("breaks", *found)
    return ("ever", paper_by_shift(inputs, choices, ring, turn))


def is_ever(system, value):
    """Whether the value is an ever paper."""
    check_system(system)
    return _values_behind(system, value) is not None


def _values_behind(system, value):
    # The values of the call that is worked next behind the run of an ever paper, None if the value is none.
    if not isinstance(value, tuple) or len(value) != 5:
        return None
    inputs, choices, ring, lot, sums = value
    if not _is_ring(system, ring):
        return None
    course = course_of(system, inputs, choices, MOST_AHEAD)
    if course is None:
        return None
    call = course[-1][2]
    if call is None or call[0] != ring_function(system, ring):
        return None
    return call[1] if _is_kept(system, ring, call[1], lot, sums) else None


def _is_kept(system, ring, values, lot, sums):
    # Whether rows hold at values, and sums of them show that the round can be gone, and that they hold behind it.
    many = len(values)
    if not is_long_lot(many, MOST_LOT, lot) or first_below(lot, values) is not None or not isinstance(sums, tuple):
        return False
    rows, forms = round_by(system, ring)
    needed = [*rows, *[put(row, forms, many) for row in lot]]
    if len(sums) != len(needed):
        return False
    return all([is_sum_for(many, lot, row, told) for row, told in zip(needed, sums)])


def ever_choices(system, paper, rounds):
    """The choices of an ever paper, and those of so many rounds more."""
    check_system(system)
    values = _values_behind(system, paper)
    if values is None:
        raise InvalidOperation("not an ever paper")
    if not is_from(0, MOST_ROUNDS, rounds):
        raise InvalidNumber(rounds)
    found = list(paper[1])
    for _ in range(rounds):
        for link in paper[2]:
            choice, values = picked(system, link, values)
            found.append(choice)
    return tuple(found)
