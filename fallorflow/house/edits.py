"""Edits of systems, and papers that are led on when a rule is tightened."""
from fallorflow.base.checks import is_from, is_row_within
from fallorflow.check.claims import is_system_claim
from fallorflow.check.papers import is_paper_for
from fallorflow.errors import InvalidClaim, InvalidForm, InvalidNumber, InvalidOperation, TooMany
from fallorflow.house.leading import LED, claim_about, paper_led
from fallorflow.rules.system import MAX_FACTOR, MAX_GUARD, System, check_system


def _check_rule(system, rule):
    if not is_from(0, len(system.rules) - 1, rule):
        raise InvalidNumber(rule)


def with_rule(system, at, rule):
    """The system with another rule in the place of that at an index, or behind all."""
    return System(system.functions, (*system.rules[:at], rule, *system.rules[at + 1:]), system.start_rows)


def _with_guard(system, index, guard):
    function, unknowns, _, cost, calls, result = system.rules[index]
    return with_rule(system, index, (function, unknowns, guard, cost, calls, result))


def tightened(system, rule, row):
    """The system with a further row behind the guard of a rule."""
    check_system(system)
    _check_rule(system, rule)
    function, unknowns, guard, _, _, _ = system.rules[rule]
    if not is_row_within(MAX_FACTOR, system.functions[function][1] + unknowns + 1, row):
        raise InvalidForm("not a form over the parameters and unknowns of the rule")
    if len(guard) == MAX_GUARD:
        raise TooMany(MAX_GUARD)
    return _with_guard(system, rule, (*guard, row))


def loosened(system, rule, at):
    """The system without one row of the guard of a rule."""
    check_system(system)
    _check_rule(system, rule)
    guard = system.rules[rule][2]
    if not is_from(0, len(guard) - 1, at):
        raise InvalidNumber(at)
    return _with_guard(system, rule, (*guard[:at], *guard[at + 1:]))


def led_on(claim, paper, rule, row):
    """The claim about the system that is tightened so, and the paper for it."""
    if not is_system_claim(claim) or claim[0] not in LED:
        raise InvalidClaim("not a claim that stays true when rules are tightened")
    if not is_paper_for(claim, paper):
        raise InvalidOperation("not a paper for the claim")
    system = tightened(claim[1], rule, row)
    return (claim_about(claim, system), paper_led(claim, paper, rule))
