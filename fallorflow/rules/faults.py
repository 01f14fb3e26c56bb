"""The first fault of what is to be a system, part by part."""
from fallorflow.base.checks import are_rows_within, is_from, is_name, is_row_within


def functions_fault(most, most_parameters, functions):
    """("functions",), ("functions", index), or None."""
    if not isinstance(functions, tuple) or not 1 <= len(functions) <= most:
        return ("functions",)
    names = {}
    for index, pair in enumerate(functions):
        if not _is_function(most_parameters, pair) or pair[0] in names:
            return ("functions", index)
        names[pair[0]] = True
    return None


def _is_function(most_parameters, value):
    if not isinstance(value, tuple) or len(value) != 2:
        return False
    return is_name(value[0]) and is_from(0, most_parameters, value[1])


def rules_fault(bounds, functions, rules):
    """("rules",), ("rules", index, part), or None."""
    if not isinstance(rules, tuple) or len(rules) > bounds["rules"]:
        return ("rules",)
    for index, rule in enumerate(rules):
        part = _rule_fault(bounds, functions, rule)
        if part is not None:
            return ("rules", index, part)
    return None


def _rule_fault(bounds, functions, value):
    if not isinstance(value, tuple) or len(value) != 6:
        return "rule"
    function, unknowns, guard, cost, calls, result = value
    if not is_from(0, len(functions) - 1, function):
        return "function"
    if not is_from(0, bounds["unknowns"], unknowns):
        return "unknowns"
    values = functions[function][1] + unknowns
    if not are_rows_within(bounds["factor"], values + 1, bounds["guard"], guard):
        return "guard"
    if not is_from(0, bounds["cost"], cost):
        return "cost"
    if not _are_calls(bounds, functions, values, calls):
        return "calls"
    if not is_row_within(bounds["factor"], values + len(calls) + 1, result):
        return "result"
    return None


def _are_calls(bounds, functions, values, value):
    if not isinstance(value, tuple) or len(value) > bounds["calls"]:
        return False
    # Ahead of each call there is one more value: the result of the former one.
    return all([_is_call(bounds, functions, values + number, call) for number, call in enumerate(value)])


def _is_call(bounds, functions, values, value):
    if not isinstance(value, tuple) or len(value) != 2:
        return False
    callee, arguments = value
    if not is_from(0, len(functions) - 1, callee) or not isinstance(arguments, tuple):
        return False
    if len(arguments) != functions[callee][1]:
        return False
    return all([is_row_within(bounds["factor"], values + 1, form) for form in arguments])


def given_fault(bounds, functions, given):
    """("given",), ("given", index), or None."""
    if not isinstance(given, tuple) or len(given) > bounds["guard"]:
        return ("given",)
    for index, row in enumerate(given):
        if not is_row_within(bounds["factor"], functions[0][1] + 1, row):
            return ("given", index)
    return None
