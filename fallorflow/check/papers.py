"""Judges of papers, by the members of their claims: they add up, compare and walk, and look for nothing."""
from fallorflow.base.plain import at_values, at_vector
from fallorflow.bills.judge import is_bill_for, is_crop_for
from fallorflow.bills.least import is_least_bill
from fallorflow.bills.ledger import cost_ledger, lot_ledger
from fallorflow.bounds.plan import Plan
from fallorflow.bounds.polys import is_covering, poly_value
from fallorflow.bounds.reckoning import reckoned
from fallorflow.bounds.sizes import is_sizing_for
from fallorflow.check.claims import are_inputs
from fallorflow.ever.rings import is_ever
from fallorflow.ever.shelves import are_turns, is_tree_of_shelves, moves_of
from fallorflow.exact.calls import rule_with_result
from fallorflow.exact.table import is_round_for
from fallorflow.fall.judge import is_balance_for, is_rank_for
from fallorflow.fall.levels import is_stay_for, is_tree_for
from fallorflow.fall.lot import Lot
from fallorflow.hold.keeps import are_sums_for
from fallorflow.lots.judges import is_bar_for, is_point_for, is_sum_for
from fallorflow.rules.machine import MOST_CHOICES, course_of
from fallorflow.rules.system import all_edges, are_edges_of, edge_goal, edge_source, is_long_keep, told_ahead
from fallorflow.rules.ways import reached_from


def _is_tuple(many, value):
    return isinstance(value, tuple) and len(value) == many


def _shows_point(members, value):
    return is_point_for(members[0], members[1], value)


def _shows_bar(members, value):
    return is_bar_for(members[0], members[1], value)


def _shows_follows(members, value):
    return is_sum_for(members[0], members[1], members[2], value)


def _shows_escapes(members, value):
    return is_point_for(members[0], members[1], value) and at_vector(members[2], value) < 0


def _is_held(system, keep, sums):
    # Whether sums show that a keep, with integers of any length, is inductive.
    return is_long_keep(system, keep) and are_sums_for(system, keep, sums)


def _shows_holds(members, value):
    system, side, function, row = members
    return _is_tuple(2, value) and _is_held(system, value[0], value[1]) and row in value[0][side][function]


def _course(system, value):
    # What comes in a run, the value being its inputs and choices, or None.
    return course_of(system, value[0], value[1], MOST_CHOICES) if _is_tuple(2, value) else None


def breaking_step(members, course):
    """How many choices of a run are made when a row is below 0 at a call, or at an end, the first time, or None."""
    _, side, function, row = members
    for number, (_, events, _) in enumerate(course):
        for event in events:
            if side == 0 and event[0] == "enter" and event[2] == function and at_values(row, event[3]) < 0:
                return number
            if side == 1 and event[0] == "leave" and event[1] == function:
                if at_values(row, (*event[2], event[3])) < 0:
                    return number
    return None


def _shows_breaks(members, value):
    course = _course(members[0], value)
    return course is not None and breaking_step(members, course) is not None


def _reached(system, edges):
    return reached_from(0, [(edge_source(system, edge), edge_goal(system, edge)) for edge in edges])


def _is_net(system, keep, sums, edges, bars):
    if not _is_held(system, keep, sums) or not are_edges_of(system, edges):
        return False
    others = [edge for edge in all_edges(system) if edge not in edges]
    if not _is_tuple(len(others), bars):
        return False
    reached = _reached(system, edges)
    for edge, bar in zip(others, bars):
        if not _is_shut(told_ahead(system, keep, edge[0], edge[1]), edge_source(system, edge) in reached, bar):
            return False
    return True


def _is_shut(told, is_met, bar):
    # Whether a bar shows that rows hold at no point, None if their function is not met.
    if bar is None:
        return not is_met
    return is_bar_for(told[0], told[1], bar)


def _shows_never_chosen(members, value):
    system, rule = members
    if not _is_tuple(5, value):
        return False
    keep, sums, edges, bars, bar = value
    if not _is_net(system, keep, sums, edges, bars):
        return False
    return _is_shut(told_ahead(system, keep, rule, 0), system.rules[rule][0] in _reached(system, edges), bar)


def _shows_chosen(members, value):
    system, rule = members
    return _course(system, value) is not None and rule in [choice[0] for choice in value[1]]


def _shows_falls(members, value):
    system, keep, edges, edge = members
    return is_rank_for(Lot(system, keep, edges), edges, edge, value)


def _shows_balanced(members, value):
    system, keep, edges, edge = members
    return is_balance_for(Lot(system, keep, edges), edges, edge, value)


def _shows_taken_out(members, value):
    system, keep, edges = members
    return is_tree_for(Lot(system, keep, edges), value)


def _shows_stays(members, value):
    system, keep, edges = members
    return is_stay_for(Lot(system, keep, edges), value)


def _shows_billed(members, value):
    return is_bill_for(cost_ledger(members[0], members[1]), "bill", value)


def _shows_cropped(members, value):
    return is_crop_for(cost_ledger(members[0], members[1]), "crop", value)


def _shows_shared(members, value):
    system, keep, edges = members
    return is_bill_for(lot_ledger(system, keep, edges), "shared", value)


def _shows_split(members, value):
    system, keep, edges = members
    return is_crop_for(lot_ledger(system, keep, edges), "split", value)


def _shows_least(members, value):
    system, keep, function, values, fraction = members
    return _is_tuple(2, value) and is_least_bill(system, keep, function, values, ("least", fraction, *value))


def _shows_counters_end(members, value):
    return is_tree_of_shelves(members[0], moves_of(members[0]), value)


def _shows_counters_go_on(members, value):
    return are_turns(moves_of(members[0]), value)


def _shows_ends(members, value):
    system = members[0]
    if not _is_tuple(5, value):
        return False
    keep, sums, edges, bars, tree = value
    return _is_net(system, keep, sums, edges, bars) and is_tree_for(Lot(system, keep, edges), tree)


def _shows_for_ever(members, value):
    system = members[0]
    if not isinstance(value, tuple) or not value or not isinstance(value[0], str):
        return False
    if value[0] == "ring":
        return len(value) == 2 and is_ever(system, value[1])
    if value[0] != "round" or len(value) != 3 or rule_with_result(system) is not None:
        return False
    return are_inputs(system, value[1]) and is_round_for(system, value[1], None, value[2])


def cost_poly(system, keep, tree, sizing):
    """The poly of all that is paid, None if it is refused, has none within the bounds, or these are not as they are
    to be."""
    lot = Lot(system, keep, all_edges(system))
    if not is_tree_for(lot, tree) or not is_sizing_for(lot, sizing):
        return None
    found = reckoned(Plan(system, lot, tree, sizing), ("cost",))
    return found[1] if found is not None and found[0] == "within" else None


def sizes_of(inputs):
    """The sizes of inputs."""
    return tuple([abs(number) for number in inputs])


def _shows_at_most(members, value):
    system, inputs, number = members
    if not isinstance(value, tuple) or len(value) < 4 or not isinstance(value[0], str):
        return False
    if not _is_held(system, value[1], value[2]):
        return False
    if value[0] == "bill" and len(value) == 4:
        _, keep, _, bill = value
        if not is_bill_for(cost_ledger(system, keep), "bill", bill):
            return False
        return at_values(bill[2][0], inputs) // bill[1] <= number
    if value[0] != "bound" or len(value) != 5:
        return False
    _, keep, _, tree, sizing = value
    poly = cost_poly(system, keep, tree, sizing)
    return poly is not None and poly_value(poly, sizes_of(inputs)) <= number


def _shows_more(members, value):
    system, inputs, number = members
    course = course_of(system, inputs, value, MOST_CHOICES)
    return course is not None and course[-1][0] > number


def _shows_within(members, value):
    system, poly = members
    if not _is_tuple(4, value) or not _is_held(system, value[0], value[1]):
        return False
    keep, _, tree, sizing = value
    found = cost_poly(system, keep, tree, sizing)
    return found is not None and is_covering(poly, found)


def _shows_beyond(members, value):
    system, poly = members
    course = _course(system, value)
    return course is not None and course[-1][0] > poly_value(poly, sizes_of(value[0]))


JUDGES = {
    "at most": _shows_at_most,
    "balanced": _shows_balanced,
    "bar": _shows_bar,
    "beyond": _shows_beyond,
    "billed": _shows_billed,
    "breaks": _shows_breaks,
    "chosen": _shows_chosen,
    "counters end": _shows_counters_end,
    "counters go on": _shows_counters_go_on,
    "cropped": _shows_cropped,
    "ends": _shows_ends,
    "escapes": _shows_escapes,
    "falls": _shows_falls,
    "follows": _shows_follows,
    "for ever": _shows_for_ever,
    "holds": _shows_holds,
    "least": _shows_least,
    "more": _shows_more,
    "never chosen": _shows_never_chosen,
    "point": _shows_point,
    "shared": _shows_shared,
    "split": _shows_split,
    "stays": _shows_stays,
    "taken out": _shows_taken_out,
    "within": _shows_within,
}


def is_paper_for(claim, value):
    """Whether the value is a paper for a claim."""
    judge = JUDGES[claim[0]]
    return judge(claim[1:], value)
