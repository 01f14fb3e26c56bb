"""Judges of ranks and balances within edges of a lot."""
from fallorflow.base.checks import are_long_forms
from fallorflow.base.plain import add_to, at_vector
from fallorflow.lots.judges import is_flow_for, is_sum_for, is_vector_for


def is_rank_for(lot, edges, edge, value):
    """Whether the value is a rank for an edge within some edges of a lot."""
    if not isinstance(value, tuple) or len(value) != 2 or not are_long_forms(lot.sizes, value[0]):
        return False
    forms, sums = value
    if not isinstance(sums, tuple) or len(sums) != len(edges) + 1:
        return False
    for other, found in zip(edges, sums):
        told = lot.told[other]
        first, *others = told.loss(forms)
        if not is_sum_for(told.many, told.rows, (first - 1 if other == edge else first, *others), found):
            return False
    told = lot.told[edge]
    return is_sum_for(told.many, told.rows, told.own(forms), sums[-1])


def is_balance_for(lot, edges, edge, value):
    """Whether the value is a balance for an edge within some edges of a lot."""
    if not isinstance(value, tuple) or len(value) != 2:
        return False
    flows, drift = value
    if not isinstance(flows, tuple) or len(flows) != len(edges):
        return False
    if not all([is_flow_for(lot.told[other].many, lot.told[other].rows, flow) for other, flow in zip(edges, flows)]):
        return False
    own = flows[edges.index(edge)]
    told = lot.told[edge]
    if own is None or own[0][0] < 1 or not is_vector_for(told.many, told.rows, drift) or drift[0] != 0:
        return False
    return _does_add_up(lot, edges, told.source, flows, drift)


def _does_add_up(lot, edges, function, flows, drift):
    totals = [[0] * (many + 1) for many in lot.sizes]
    for other, flow in zip(edges, flows):
        if flow is not None:
            told = lot.told[other]
            add_to(totals[told.source], 1, flow[0])
            add_to(totals[told.goal], -1, [flow[0][0], *[at_vector(form, flow[0]) for form in told.arguments]])
    add_to(totals[function], 1, drift)
    return not any([any(total) for total in totals])
