"""Tables of what all calls cost, or rounds that are gone for ever, read off what is entered."""
from fallorflow.base.checks import is_from, is_long_row, is_whole
from fallorflow.base.plain import at_values, first_below


def order_or_round(survey):
    """("order", calls), none ahead of those that it enters, or ("round", way, further)."""
    order = []
    is_done = {survey.start: False}
    way, steps = [survey.start], []
    left = [_arrows(survey, survey.start)]
    while way:
        if not left[-1]:
            left.pop()
            order.append(way.pop())
            is_done[order[-1]] = True
            if steps:
                steps.pop()
            continue
        goal, step = left[-1].pop()
        if goal not in is_done:
            is_done[goal] = False
            way.append(goal)
            steps.append(step)
            left.append(_arrows(survey, goal))
        elif is_done[goal] is False:
            at = way.index(goal)
            return ("round", tuple(steps[:at]), (*steps[at:], step))
    return ("order", order)


def _arrows(survey, call):
    # The list of the pairs (call that is entered, step) of a call.
    found = {}
    for calls, (_, choice) in survey.ways_on[call].items():
        for number, goal in enumerate(survey.entered(calls)):
            found.setdefault(goal, (choice, number))
    return list(found.items())


def table_by(survey, order):
    """The dict from all entered calls, ascending, to (height, most, ended)."""
    found = {}
    for call in order:
        heights, paid, ends = [0], [0], []
        for calls, (cost, _) in survey.ways_on[call].items():
            told = [found[goal] for goal in survey.entered(calls)]
            heights.extend([height + 1 for height, _, _ in told])
            paid.append(cost)
            behind = cost
            for _, most, ended in told:
                paid.append(behind + most)
                behind = None if ended is None else behind + ended
            if behind is not None and len(told) == len(calls):
                ends.append(behind)
        found[call] = (max(heights), max(paid), max(ends) if ends else None)
    return {call: found[call] for call in sorted(found)}


def endings_by(survey):
    """The dict from all entered calls that can end, ascending, to (height, choice)."""
    return {call: survey.endings[call] for call in sorted(survey.endings)}


def is_table_like(value):
    """Whether all integers of what is equal to a table are integers: True is not 1."""
    for call, told in value.items():
        if not is_whole(call[0]) or not is_long_row(len(call[1]), call[1]) or not is_long_row(2, told[:2]):
            return False
        if told[2] is not None and not is_whole(told[2]):
            return False
    return True


def _is_call(system, value):
    if not isinstance(value, tuple) or len(value) != 2 or not is_from(0, len(system.functions) - 1, value[0]):
        return False
    return is_long_row(system.functions[value[0]][1], value[1])


def _calls_by(system, stretch, call, choice):
    # The calls of the rule of a choice that fits a call, None if it does not, or is none within the stretch.
    if not isinstance(choice, tuple) or len(choice) != 2 or not is_from(0, len(system.rules) - 1, choice[0]):
        return None
    function, unknowns, guard, _, calls, _ = system.rules[choice[0]]
    if function != call[0] or not is_long_row(unknowns, choice[1]):
        return None
    if stretch is not None and any([abs(number) > stretch for number in choice[1]]):
        return None
    values = call[1] + choice[1]
    if first_below(guard, values) is not None:
        return None
    return [(callee, tuple([at_values(form, values) for form in forms])) for callee, forms in calls]


def _are_endings(system, stretch, value):
    if not isinstance(value, dict):
        return False
    for call, told in value.items():
        if not _is_call(system, call) or not isinstance(told, tuple) or len(told) != 2:
            return False
        if not is_whole(told[0]) or told[0] < 0:
            return False
    for call, (height, choice) in value.items():
        calls = _calls_by(system, stretch, call, choice)
        if calls is None or any([other not in value or value[other][0] >= height for other in calls]):
            return False
    return True


def _behind(system, stretch, endings, call, steps):
    # The call to which steps lead from a call, None if they are none.
    if not isinstance(steps, tuple):
        return None
    for step in steps:
        if not isinstance(step, tuple) or len(step) != 2:
            return None
        calls = _calls_by(system, stretch, call, step[0])
        if calls is None or not is_from(0, len(calls) - 1, step[1]):
            return None
        if step[1] == 1 and calls[0] not in endings:
            return None
        call = calls[step[1]]
    return call


def is_round_for(system, inputs, stretch, value):
    """Whether the value is a round with unknowns within a stretch, None for any: no argument names a result."""
    if not isinstance(value, tuple) or len(value) != 3 or not _are_endings(system, stretch, value[2]):
        return False
    way, further, endings = value
    call = _behind(system, stretch, endings, (0, inputs), way)
    if call is None or not further:
        return False
    return _behind(system, stretch, endings, call, further) == call
