"""Systems made of systems."""
from fallorflow.base.checks import are_indices, is_from
from fallorflow.errors import InvalidOperation
from fallorflow.rules.system import System, check_system, system_fault


def without(system, rules):
    """The system without the rules of the told indices."""
    check_system(system)
    if not are_indices(len(system.rules), rules):
        raise InvalidOperation("not an ascending tuple of indices of rules")
    left = [rule for index, rule in enumerate(system.rules) if index not in rules]
    return System(system.functions, tuple(left), system.start_rows)


def renumbered(rule, numbers):
    """The rule, the functions having the told numbers."""
    function, unknowns, guard, cost, calls, result = rule
    moved = tuple([(numbers[callee], forms) for callee, forms in calls])
    return (numbers[function], unknowns, guard, cost, moved, result)


def permuted(system, order):
    """The system in which the function order[i] stands at i."""
    check_system(system)
    if not _is_order(len(system.functions), order):
        raise InvalidOperation("not an order of the functions with 0 ahead")
    functions = tuple([system.functions[index] for index in order])
    numbers = {index: place for place, index in enumerate(order)}
    rules = tuple([renumbered(rule, numbers) for rule in system.rules])
    return System(functions, rules, system.start_rows)


def _is_order(many, value):
    if not isinstance(value, tuple) or len(value) != many:
        return False
    if not all([is_from(0, many - 1, index) for index in value]):
        return False
    return value[0] == 0 and sorted(value) == list(range(many))


def beside(one, other):
    """The system with the functions and rules of another one behind those of the first."""
    check_system(one)
    check_system(other)
    many = len(one.functions)
    numbers = [many + index for index in range(len(other.functions))]
    functions = (*one.functions, *other.functions)
    rules = (*one.rules, *[renumbered(rule, numbers) for rule in other.rules])
    if system_fault(functions, rules, one.start_rows) is not None:
        raise InvalidOperation("there would be a fault in the system of both")
    return System(functions, rules, one.start_rows)
