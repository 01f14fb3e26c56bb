"""Exact costs of systems with unknowns within a stretch, or rounds that are gone for ever."""
from fallorflow.base.checks import is_from
from fallorflow.base.plain import first_below
from fallorflow.errors import InvalidNumber, Refused, TooMany
from fallorflow.exact.calls import Survey, rule_with_result
from fallorflow.exact.table import endings_by, is_round_for, is_table_like, order_or_round, table_by
from fallorflow.rules.machine import check_inputs
from fallorflow.rules.system import check_system

MOST_CALLS = 400
MOST_STRETCH = 3


def _check(system, inputs, stretch):
    check_system(system)
    check_inputs(system, inputs)
    if not is_from(0, MOST_STRETCH, stretch):
        raise InvalidNumber(stretch)
    at = first_below(system.start_rows, inputs)
    if at is not None:
        raise Refused(("given", at))
    rule = rule_with_result(system)
    if rule is not None:
        raise Refused(("results", rule))


def _survey(system, inputs, stretch):
    _check(system, inputs, stretch)
    found = Survey(system, inputs, stretch, MOST_CALLS)
    if found.is_above:
        raise TooMany(MOST_CALLS)
    return found


def entered_calls(system, inputs, stretch):
    """The ascending tuple of the calls that runs enter."""
    return tuple(sorted(_survey(system, inputs, stretch).ways_on))


def exact_cost(system, inputs, stretch):
    """The greatest cost of a run, and the table, or a round."""
    survey = _survey(system, inputs, stretch)
    word, *found = order_or_round(survey)
    if word == "round":
        return (word, *found, endings_by(survey))
    table = table_by(survey, found[0])
    return ("most", table[survey.start][1], table)


def is_table(system, inputs, stretch, value):
    """Whether the value is the table."""
    _check(system, inputs, stretch)
    if not isinstance(value, dict):
        return False
    survey = Survey(system, inputs, stretch, len(value))
    if survey.is_above:
        return False
    word, *found = order_or_round(survey)
    return word == "order" and value == table_by(survey, found[0]) and is_table_like(value)


def is_round(system, inputs, stretch, value):
    """Whether the value is a round with unknowns within the stretch."""
    _check(system, inputs, stretch)
    return is_round_for(system, inputs, stretch, value)
