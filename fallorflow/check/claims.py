"""Claims: their kinds, their opposites, and what is asked of their members."""
from math import gcd

from fallorflow.base.checks import is_from, is_long_row, is_lot, is_short_row, is_whole
from fallorflow.base.forms import MOST_ROWS, MOST_UNKNOWNS
from fallorflow.base.plain import first_below
from fallorflow.bounds.polys import is_poly_over
from fallorflow.ever.shelves import moves_of
from fallorflow.rules.system import System, are_edges_of, is_keep

OPPOSITES = {
    "point": "bar",
    "follows": "escapes",
    "holds": "breaks",
    "never chosen": "chosen",
    "falls": "balanced",
    "taken out": "stays",
    "billed": "cropped",
    "shared": "split",
    "counters end": "counters go on",
    "ends": "for ever",
    "at most": "more",
    "within": "beyond",
}


def _are_rows(members):
    if len(members) != 2 or not is_from(0, MOST_UNKNOWNS, members[0]):
        return False
    return is_lot(members[0], MOST_ROWS, members[1])


def _are_rows_and_form(members):
    return len(members) == 3 and _are_rows(members[:2]) and is_short_row(members[0] + 1, members[2])


def _is_function(system, value):
    return is_from(0, len(system.functions) - 1, value)


def _is_row_at_calls(members):
    if len(members) != 4:
        return False
    system, side, function, row = members
    if not is_from(0, 1, side) or not _is_function(system, function):
        return False
    return is_short_row(system.functions[function][1] + side + 1, row)


def _is_rule(members):
    return len(members) == 2 and is_from(0, len(members[0].rules) - 1, members[1])


def _is_alone(members):
    return len(members) == 1


def _is_with_keep(members):
    return len(members) == 2 and is_keep(members[0], members[1])


def _is_with_lot(members):
    return len(members) == 3 and _is_with_keep(members[:2]) and are_edges_of(members[0], members[2])


def _is_edge_in_lot(members):
    if len(members) != 4 or not _is_with_lot(members[:3]):
        return False
    # True is not 1 here.
    return is_long_row(2, members[3]) and members[3] in members[2]


def _is_fraction(value):
    return is_long_row(2, value) and value[1] >= 1 and gcd(value[0], value[1]) == 1


def _is_least(members):
    if len(members) != 5 or not _is_with_keep(members[:2]):
        return False
    system, keep, function, values, fraction = members
    if not _is_function(system, function) or not is_short_row(system.functions[function][1], values):
        return False
    return first_below(keep[0][function], values) is None and _is_fraction(fraction)


def _are_counters(members):
    return len(members) == 1 and moves_of(members[0]) is not None


def are_inputs(system, value):
    """Whether the value is inputs at which the start rows hold."""
    return is_short_row(system.functions[0][1], value) and first_below(system.start_rows, value) is None


def _is_number(members):
    if len(members) != 3 or not are_inputs(members[0], members[1]):
        return False
    return is_whole(members[2]) and members[2] >= 0


def _is_poly(members):
    return len(members) == 2 and is_poly_over(members[0].functions[0][1], members[1])


PLAIN_MEMBERS = {"point": _are_rows, "follows": _are_rows_and_form}
# The kinds that are about a system, which is their first member.
SYSTEM_MEMBERS = {
    "holds": _is_row_at_calls,
    "never chosen": _is_rule,
    "falls": _is_edge_in_lot,
    "taken out": _is_with_lot,
    "billed": _is_with_keep,
    "shared": _is_with_lot,
    "least": _is_least,
    "counters end": _are_counters,
    "ends": _is_alone,
    "at most": _is_number,
    "within": _is_poly,
}


def first_kind(word):
    """The first kind of the pair of opposites in which a kind stands, "least" itself, or None."""
    if word in OPPOSITES or word == "least":
        return word
    for first, other in OPPOSITES.items():
        if other == word:
            return first
    return None


def other_kind(word):
    """The opposite of a kind, None for "least"."""
    return OPPOSITES[word] if word in OPPOSITES else None if word == "least" else first_kind(word)


def _kind_of(value):
    # The first kind of the pair of a claim's word, None if it is no tuple with such a word.
    if not isinstance(value, tuple) or not value or not isinstance(value[0], str):
        return None
    return first_kind(value[0])


def is_system_claim(value):
    """Whether the value is a claim about a system."""
    kind = _kind_of(value)
    if kind not in SYSTEM_MEMBERS or len(value) < 2 or not isinstance(value[1], System):
        return False
    are_members = SYSTEM_MEMBERS[kind]
    return are_members(value[1:])


def is_any_claim(value):
    """Whether the value is a claim."""
    kind = _kind_of(value)
    if kind in PLAIN_MEMBERS:
        are_members = PLAIN_MEMBERS[kind]
        return are_members(value[1:])
    return is_system_claim(value)


def with_members(word, members):
    """The claim of a kind with some members, sharing no dict with them."""
    if word in ("within", "beyond"):
        system, poly = members
        return (word, system, {exponents: poly[exponents] for exponents in sorted(poly)})
    return (word, *members)
