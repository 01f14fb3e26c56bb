"""Systems without functions that only stand between others."""
from fallorflow.base.checks import is_from
from fallorflow.base.plain import grown, opposite_of, put, unit
from fallorflow.errors import InvalidNumber, Refused
from fallorflow.rules.made import renumbered
from fallorflow.rules.system import MAX_CALLS, MAX_COST, MAX_FACTOR, MAX_GUARD, MAX_RULES, MAX_UNKNOWNS
from fallorflow.rules.system import System, check_system


def can_cut(system, function):
    """Whether the function can be cut."""
    _check(system, function)
    return _without(system, function) is not None


def cut(system, function):
    """The system in which the function is cut."""
    _check(system, function)
    left = _without(system, function)
    if left is None:
        raise Refused(("stays",))
    return left


def short(system):
    """The system in which the least function that can be cut is, again and again."""
    check_system(system)
    function = 1
    while function < len(system.functions):
        left = _without(system, function)
        function = function + 1
        if left is not None:
            system = left
            function = 1
    return system


def _check(system, function):
    check_system(system)
    if not is_from(0, len(system.functions) - 1, function):
        raise InvalidNumber(function)


def _without(system, function):
    # The system without the function, None if it cannot be cut.
    inner = [rule for rule in system.rules if rule[0] == function]
    callers = [rule for rule in system.rules if _calls(rule, function)]
    if function == 0 or len(system.rules) - len(inner) + len(callers) * (len(inner) - 1) > MAX_RULES:
        return None
    is_surely_open = _is_sure(inner)
    if not all([_is_fit(system, rule, function, is_surely_open) for rule in callers]):
        return None
    rules = []
    for rule in system.rules:
        if rule[0] != function:
            found = [rule]
            if _calls(rule, function):
                found = [_joined(system, rule, other) for other in inner]
                if not all([_is_within_bounds(one) for one in found]):
                    return None
            rules.extend(found)
    numbers = [number if number < function else number - 1 for number in range(len(system.functions))]
    functions = (*system.functions[:function], *system.functions[function + 1:])
    return System(functions, tuple([renumbered(rule, numbers) for rule in rules]), system.start_rows)


def _calls(rule, function):
    return any([callee == function for callee, _ in rule[4]])


def _is_sure(inner):
    # Some rule is open whatever the values are: there is one without a guard, or
    # one way and all others of an `if`, as far as no unknown is asked for.
    if any([not rule[2] for rule in inner]):
        return True
    guards = {rule[2]: True for rule in inner if rule[1] == 0}
    return any([all([way in guards for way in _other_ways(guard)]) for guard in guards])


def _other_ways(tests):
    return [(*tests[:at], opposite_of(test)) for at, test in enumerate(tests)]


def _is_fit(system, rule, function, is_surely_open):
    # Whether a rule that calls the function does nothing behind this call.
    owner, unknowns, _, cost, calls, result = rule
    if owner == function or any([callee == function for callee, _ in calls[:-1]]):
        return False
    values = system.functions[owner][1] + unknowns + len(calls)
    if result != unit(values - 1, values):
        return False
    return is_surely_open or (cost == 0 and len(calls) == 1)


def _joined(system, rule, inner):
    """The rule that does at once what a rule and then one of its last callee does, None if a result is asked."""
    function, unknowns, guard, cost, calls, _ = rule
    _, further, asked, more, behind, result = inner
    if more > 0 and len(calls) > 1:
        return None
    own = system.functions[function][1] + unknowns
    first = own + further
    ahead = len(calls) - 1
    many = first + ahead + len(behind)
    # The values of the inner rule: the arguments, its own unknowns, the results of its calls.
    values = [_spread(form, own, further, many) for form in calls[-1][1]]
    values.extend([unit(own + at, many) for at in range(further)])
    values.extend([unit(first + ahead + at, many) for at in range(len(behind))])
    asked = [put(row, values, many) for row in asked]
    if any([any(row[first + 1:]) for row in asked]):
        return None
    rows = [grown(row, first) for row in guard] + [row[:first + 1] for row in asked]
    made = [(callee, tuple([_spread(form, own, further, first) for form in forms])) for callee, forms in calls[:-1]]
    for at, (callee, forms) in enumerate(behind):
        size = first + ahead + at + 1
        made.append((callee, tuple([put(form, values, many)[:size] for form in forms])))
    return (function, unknowns + further, tuple(rows), cost + more, tuple(made), put(result, values, many))


def _spread(form, own, further, many):
    # A form in which further unknowns stand behind the own values, ahead of the results.
    return grown((*form[:own + 1], *[0 for _ in range(further)], *form[own + 1:]), many)


def _is_within_bounds(rule):
    if rule is None:
        return False
    _, unknowns, guard, cost, calls, result = rule
    if unknowns > MAX_UNKNOWNS or len(guard) > MAX_GUARD or cost > MAX_COST or len(calls) > MAX_CALLS:
        return False
    forms = [result, *guard]
    for _, told in calls:
        forms.extend(told)
    return all([-MAX_FACTOR <= min(form) and max(form) <= MAX_FACTOR for form in forms])
