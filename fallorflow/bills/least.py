"""Least bills at told values, and ranks that are shared out among the edges of a lot."""
from math import gcd

from fallorflow.base.checks import is_long_row
from fallorflow.base.plain import at_values, first_below, reduced
from fallorflow.bills.account import Account
from fallorflow.bills.bills import check_call, check_equations, ledger_of
from fallorflow.bills.judge import price_of, is_bill_for, is_crop_for, is_mixture_for
from fallorflow.bills.ledger import lot_ledger
from fallorflow.bills.payments import calls_of, gathered
from fallorflow.errors import InvalidOperation, Refused
from fallorflow.rules.system import check_edges, check_keep, check_system


def _entered_ledger(system, keep, function, values):
    ledger = ledger_of(system, keep)
    check_call(system, function, values)
    at = first_below(keep[0][function], values)
    if at is not None:
        raise Refused(("entry", at))
    return ledger


def least_bill(system, keep, function, values):
    """A least bill at values of a function with a mixture that shows it, or a crop."""
    ledger = _entered_ledger(system, keep, function, values)
    check_equations(ledger)
    return Account(ledger).least(function, values)


def is_least_bill(system, keep, function, values, value):
    """Whether the value is a least bill at values of a function, with a mixture that shows it."""
    ledger = _entered_ledger(system, keep, function, values)
    if not isinstance(value, tuple) or len(value) != 4 or not isinstance(value[0], str) or value[0] != "least":
        return False
    _, fraction, bill, mixture = value
    if not is_long_row(2, fraction) or fraction[1] < 1 or gcd(fraction[0], fraction[1]) != 1:
        return False
    if not is_bill_for(ledger, "bill", bill) or not is_mixture_for(ledger, function, values, mixture):
        return False
    top, bottom = fraction
    return top * bill[1] == bottom * at_values(bill[2][function], values) and fraction == _worth(ledger, mixture)


def _worth(ledger, mixture):
    return reduced((price_of(ledger, mixture[1]), mixture[0]))


def worth(system, keep, function, values, mixture):
    """What a mixture is worth, as a fraction in lowest terms."""
    ledger = _entered_ledger(system, keep, function, values)
    if not is_mixture_for(ledger, function, values, mixture):
        raise InvalidOperation("not a mixture for the function at the values")
    return _worth(ledger, mixture)


def lot_items(system, lot):
    """The ascending tuple of the items of a lot of call edges."""
    check_system(system)
    check_edges(system, lot)
    return tuple([(rule, number + 1) for rule, number in lot])


def _shared_ledger(system, keep, lot):
    check_system(system)
    check_keep(system, keep)
    check_edges(system, lot)
    return lot_ledger(system, keep, lot)


def shared(system, keep, lot):
    """A shared rank for the lot, or a split."""
    ledger = _shared_ledger(system, keep, lot)
    check_equations(ledger)
    return Account(ledger).answer("shared", "split")


def is_shared(system, keep, lot, value):
    """Whether the value is a shared rank for the lot."""
    return is_bill_for(_shared_ledger(system, keep, lot), "shared", value)


def is_split(system, keep, lot, value):
    """Whether the value is a split for the lot."""
    return is_crop_for(_shared_ledger(system, keep, lot), "split", value)


def visits(system, inputs, choices, lot):
    """For each call of a run how many rules of it, and of what comes of it along the lot, made a call along the lot."""
    calls = calls_of(system, inputs, choices)
    check_edges(system, lot)
    made = [0 for _ in calls]
    for call in calls:
        if call.above is not None and call.edge in lot:
            made[call.above] = 1
    return gathered(calls, made, lot)
