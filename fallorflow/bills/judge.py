"""Judges of bills, crops and mixtures, by ledgers."""
from fallorflow.base.checks import are_long_forms, is_whole
from fallorflow.base.plain import add_to
from fallorflow.lots.judges import is_flow_for, is_sum_for


def is_bill_for(ledger, word, value):
    """Whether the value is a bill for a ledger, its word being told."""
    if not isinstance(value, tuple) or len(value) != 5 or not isinstance(value[0], str) or value[0] != word:
        return False
    _, scale, forms, entries, dues = value
    if not is_whole(scale) or scale < 1 or not are_long_forms(ledger.sizes, forms):
        return False
    if not isinstance(entries, tuple) or len(entries) != len(ledger.sizes):
        return False
    if not isinstance(dues, tuple) or len(dues) != len(ledger.lines):
        return False
    for many, rows, form, told in zip(ledger.sizes, ledger.entries, forms, entries):
        if not is_sum_for(many, rows, form, told):
            return False
    for item, told in zip(ledger.lines, dues):
        if not is_sum_for(item.many, item.rows, item.due(scale, forms), told):
            return False
    return True


def is_crop_for(ledger, word, value):
    """Whether the value is a crop for a ledger, its word being told."""
    if not isinstance(value, tuple) or len(value) != 3 or not isinstance(value[0], str) or value[0] != word:
        return False
    _, items, functions = value
    return does_add_up(ledger, items, functions, {}) and price_of(ledger, items) >= 1


def is_mixture_for(ledger, function, values, value):
    """Whether the value is a mixture for a function with integers for its parameters."""
    if not isinstance(value, tuple) or len(value) != 3 or not is_whole(value[0]) or value[0] < 1:
        return False
    weight, items, functions = value
    return does_add_up(ledger, items, functions, {function: (weight, *[weight * number for number in values])})


def does_add_up(ledger, items, functions, given):
    """Whether flows of items and functions are formed well, and at each function all that is brought, with what is
    given to some, is all that is taken and the function's own."""
    if not isinstance(items, tuple) or len(items) != len(ledger.lines):
        return False
    if not isinstance(functions, tuple) or len(functions) != len(ledger.sizes):
        return False
    for item, flow in zip(ledger.lines, items):
        if not is_flow_for(item.many, item.rows, flow):
            return False
    for many, rows, flow in zip(ledger.sizes, ledger.entries, functions):
        if not is_flow_for(many, rows, flow):
            return False
    totals = [[0] * (many + 1) for many in ledger.sizes]
    for function, numbers in given.items():
        add_to(totals[function], 1, numbers)
    for item, flow in zip(ledger.lines, items):
        if flow is not None:
            for callee, numbers in item.brought(flow[0]):
                add_to(totals[callee], 1, numbers)
            add_to(totals[item.source], -1, flow[0])
    for total, flow in zip(totals, functions):
        if flow is not None:
            add_to(total, -1, flow[0])
    return not any([any(total) for total in totals])


def price_of(ledger, items):
    """What flows of items cost together."""
    return sum([item.price * flow[0][0] for item, flow in zip(ledger.lines, items) if flow is not None])
