"""Steps of the plain machine, nothing being asked of what is passed.

A call is (function, values), the pile a tuple of (rule, values, number) as the
class Standing tells them.
"""
from fallorflow.base.checks import is_from, is_short_row
from fallorflow.base.plain import at_values, first_below


def is_choice(system, value):
    """Whether the value is the index of a rule with integers for its unknowns."""
    if not isinstance(value, tuple) or len(value) != 2 or not is_from(0, len(system.rules) - 1, value[0]):
        return False
    return is_short_row(system.rules[value[0]][1], value[1])


def hindrance(system, call, choice):
    """Why a choice cannot be done, the reason of Refused, or None."""
    if call is None:
        return ("ended",)
    rule = system.rules[choice[0]]
    if rule[0] != call[0]:
        return ("function",)
    at = first_below(rule[2], call[1] + choice[1])
    return None if at is None else ("guard", at)


def worked(system, call, pile, choice):
    """What is there behind a choice that can be done: (call, pile, result, events).

    The events are ("leave", function, values, result) for each call that ends,
    in sequence, and last ("enter", edge, function, values) if one is made.
    """
    rows = list(pile)
    rows.append((choice[0], call[1] + choice[1], 0))
    events = []
    while rows:
        index, values, number = rows[-1]
        function, calls, result = system.rules[index][0], system.rules[index][4], system.rules[index][5]
        if number < len(calls):
            callee, forms = calls[number]
            told = tuple([at_values(form, values) for form in forms])
            events.append(("enter", (index, number), callee, told))
            return ((callee, told), tuple(rows), None, events)
        value = at_values(result, values)
        events.append(("leave", function, values[:system.functions[function][1]], value))
        rows.pop()
        if rows:
            rows[-1] = _with_result(rows[-1], value)
    return (None, (), value, events)


def _with_result(member, value):
    index, values, number = member
    return (index, (*values, value), number + 1)


def fitting(system, call, stretch):
    """The ascending list of the choices with unknowns within the stretch that fit a call."""
    found = []
    for index, rule in enumerate(system.rules):
        if rule[0] == call[0]:
            for unknowns in numbers_within(rule[1], stretch):
                if first_below(rule[2], call[1] + unknowns) is None:
                    found.append((index, unknowns))
    return found


def numbers_within(many, stretch):
    """The ascending list of the tuples of so many integers from -stretch to stretch."""
    found = [()]
    for _ in range(many):
        found = [(*ahead, number) for ahead in found for number in range(-stretch, stretch + 1)]
    return found
