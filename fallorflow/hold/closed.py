"""What never opens: rules and call edges that are closed, functions that are not met."""
from fallorflow.base.checks import is_from
from fallorflow.errors import InvalidNumber
from fallorflow.hold.keeps import check_candidates, check_duties, greatest_of
from fallorflow.lots.answers import solved_rows
from fallorflow.lots.judges import is_bar_for, is_point_for
from fallorflow.rules.made import without
from fallorflow.rules.system import all_edges, check_edge, check_keep, check_system, edge_goal, edge_source, told_ahead
from fallorflow.rules.ways import reached_from


def _check_rule(system, rule):
    if not is_from(0, len(system.rules) - 1, rule):
        raise InvalidNumber(rule)


def opening(told):
    """("closed", bar) or ("open", point) for the pair of how many values there are and rows over them."""
    word, found = solved_rows(told[0], told[1])
    return ("open" if word == "point" else "closed", found)


def rule_opens(system, keep, rule):
    """A bar for the rows of a rule, or a point."""
    check_system(system)
    check_keep(system, keep)
    _check_rule(system, rule)
    return opening(told_ahead(system, keep, rule, 0))


def edge_opens(system, keep, edge):
    """A bar for the rows of a call edge, or a point."""
    check_system(system)
    check_keep(system, keep)
    check_edge(system, edge)
    return opening(told_ahead(system, keep, edge[0], edge[1]))


def _is_opening(told, value):
    many, rows = told
    if not isinstance(value, tuple) or len(value) != 2 or not isinstance(value[0], str):
        return False
    if value[0] == "closed":
        return is_bar_for(many, rows, value[1])
    return value[0] == "open" and is_point_for(many, rows, value[1])


def is_rule_opening(system, keep, rule, value):
    """Whether the value shows that a rule is closed, or open."""
    check_system(system)
    check_keep(system, keep)
    _check_rule(system, rule)
    return _is_opening(told_ahead(system, keep, rule, 0), value)


def is_edge_opening(system, keep, edge, value):
    """Whether the value shows that a call edge is closed, or open."""
    check_system(system)
    check_keep(system, keep)
    check_edge(system, edge)
    return _is_opening(told_ahead(system, keep, edge[0], edge[1]), value)


def is_edge_closed(system, keep, edge):
    """Whether the rows of a call edge hold at no point."""
    return opening(told_ahead(system, keep, edge[0], edge[1]))[0] == "closed"


def _met_by(system, keep, edges):
    # The ascending list of the functions to which edges lead from the function 0, if it is not closed.
    rows = (*system.start_rows, *keep[0][0])
    if opening((system.functions[0][1], rows))[0] == "closed":
        return []
    return reached_from(0, [(edge_source(system, edge), edge_goal(system, edge)) for edge in edges])


def _not_closed(system, keep):
    return [edge for edge in all_edges(system) if not is_edge_closed(system, keep, edge)]


def open_edges(system, keep):
    """The call edges of functions that are met that are not closed, ascending."""
    check_system(system)
    check_keep(system, keep)
    edges = _not_closed(system, keep)
    functions = _met_by(system, keep, edges)
    return tuple([edge for edge in edges if edge_source(system, edge) in functions])


def met(system, keep):
    """The functions to which call edges that are not closed lead from the function 0, ascending."""
    check_system(system)
    check_keep(system, keep)
    return tuple(_met_by(system, keep, _not_closed(system, keep)))


def _left_of(system, keep):
    # The ascending list of the rules that are not closed, of functions that are met.
    functions = _met_by(system, keep, _not_closed(system, keep))
    found = []
    for index, rule in enumerate(system.rules):
        if rule[0] in functions and opening(told_ahead(system, keep, index, 0))[0] == "open":
            found.append(index)
    return found


def _kept(system, indices):
    return without(system, tuple([index for index in range(len(system.rules)) if index not in indices]))


def cut(system, keep):
    """The system without rules that no run chooses by the keep, and the indices of those left."""
    check_system(system)
    check_keep(system, keep)
    indices = _left_of(system, keep)
    return (_kept(system, indices), tuple(indices))


def settled(system, keep):
    """The system cut by its greatest keep till nothing is cut, the indices of the rules left, and this keep."""
    check_system(system)
    check_candidates(system, keep)
    check_duties(system, keep)
    indices = list(range(len(system.rules)))
    while True:
        found = greatest_of(system, keep).now()
        left = _left_of(system, found)
        if len(left) == len(system.rules):
            return (system, tuple(indices), found)
        system = _kept(system, left)
        indices = [indices[at] for at in left]
