"""Ranks of call edges within lots, and balances of those that have none."""
from fallorflow.base.checks import are_long_forms, is_ascending, is_from, is_short_row
from fallorflow.base.plain import added, at_values, scaled
from fallorflow.errors import InvalidForm, InvalidNumber, InvalidOperation, TooMany
from fallorflow.fall.judge import is_balance_for, is_rank_for
from fallorflow.fall.lot import Lot
from fallorflow.fall.search import Search
from fallorflow.rules.system import check_edge, check_edges, check_keep, check_system

MOST_ROWS = 120


def lot_of(system, keep, edges):
    """The lot of some call edges: errors of these parameters."""
    check_system(system)
    check_keep(system, keep)
    check_edges(system, edges)
    return Lot(system, keep, edges)


def _lot_with(system, keep, edges, edge):
    lot = lot_of(system, keep, edges)
    check_edge(system, edge)
    if edge not in lot.told:
        raise InvalidOperation("not an edge of the lot")
    return lot


def check_rows_of(lot):
    """Refuse a lot the edges of which have too many rows."""
    if lot.many_rows() > MOST_ROWS:
        raise TooMany(MOST_ROWS)


def rank_or_balance(system, keep, edges, edge):
    """A rank for the edge within the lot, or a balance."""
    lot = _lot_with(system, keep, edges, edge)
    check_rows_of(lot)
    search = Search(lot, edges, {})
    search.ask(edge)
    if edge in search.shapes:
        return ("rank", search.rank(edge))
    return ("balance", search.balance(edge, edges))


def is_rank(system, keep, edges, edge, value):
    """Whether the value is a rank for the edge within the lot."""
    return is_rank_for(_lot_with(system, keep, edges, edge), edges, edge, value)


def is_balance(system, keep, edges, edge, value):
    """Whether the value is a balance for the edge within the lot."""
    return is_balance_for(_lot_with(system, keep, edges, edge), edges, edge, value)


def falling(system, keep, edges):
    """The edges of the lot that have a rank within it, ascending."""
    lot = lot_of(system, keep, edges)
    check_rows_of(lot)
    search = Search(lot, edges, {})
    search.look()
    return tuple([edge for edge in edges if edge in search.shapes])


def _is_lesser(edges, edge, value):
    # Whether the value is an ascending tuple of some of the edges, this one among them.
    if not isinstance(value, tuple) or not all([_is_one_of(edges, other) for other in value]):
        return False
    return is_ascending(value) and edge in value


def _is_one_of(edges, value):
    if not isinstance(value, tuple) or len(value) != 2:
        return False
    # True is not 1 here.
    return is_short_row(2, value) and value in edges


def narrowed(system, keep, edges, edge, rank, lesser):
    """The rank within a lesser lot, with the same forms."""
    lot = _lot_with(system, keep, edges, edge)
    if not is_rank_for(lot, edges, edge, rank) or not _is_lesser(edges, edge, lesser):
        raise InvalidOperation("not a rank within the lot, or not a lesser lot with the edge")
    forms, sums = rank
    return (forms, (*[told for other, told in zip(edges, sums) if other in lesser], sums[-1]))


def ranks_added(system, keep, edges, edge, one, other):
    """A rank whose forms are the sums of those of two ranks."""
    lot = _lot_with(system, keep, edges, edge)
    if not is_rank_for(lot, edges, edge, one) or not is_rank_for(lot, edges, edge, other):
        raise InvalidOperation("not a rank for the edge within the lot")
    forms = tuple([added(mine, yours) for mine, yours in zip(one[0], other[0])])
    sums = [_sums_added(mine, yours) for mine, yours in zip(one[1], other[1])]
    # Both losses are told less 1, and their sum is to be told less 1 only.
    at = edges.index(edge)
    scale, further, *numbers = sums[at]
    sums[at] = (scale, further + scale, *numbers)
    return (forms, tuple(sums))


def _sums_added(one, other):
    # A sum without a scale is one for each form.
    if one[0] == 0 or other[0] == 0:
        return one if one[0] == 0 else other
    return (one[0] * other[0], *added(scaled(other[0], one[1:]), scaled(one[0], other[1:])))


def check_place(system, function, values):
    """Refuse what is no function with an integer for each of its parameters."""
    if not is_from(0, len(system.functions) - 1, function):
        raise InvalidNumber(function)
    if not is_short_row(system.functions[function][1], values):
        raise InvalidOperation("not an integer for each parameter of the function")


def times_at(form, values):
    """How often at most an edge comes whose form is told, at values."""
    return max(0, 1 + at_values(form, values))


def most_times(system, forms, function, values):
    """How often at most an edge with a rank of these forms comes from a call on."""
    check_system(system)
    if not are_long_forms([many for _, many in system.functions], forms):
        raise InvalidForm("not a form for each function")
    check_place(system, function, values)
    return times_at(forms[function], values)
