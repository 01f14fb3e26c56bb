"""Bills that pay for all that a system costs, and crops that no bill can pay."""
from fallorflow.base.checks import are_short_forms, is_from, is_long_row, is_short, is_short_row
from fallorflow.base.plain import at_values
from fallorflow.bills.account import Account
from fallorflow.bills.judge import is_bill_for, is_crop_for
from fallorflow.bills.ledger import cost_item, cost_ledger, item_names
from fallorflow.bills.payments import calls_of, gathered
from fallorflow.errors import InvalidForm, InvalidNumber, InvalidOperation, TooMany
from fallorflow.rules.system import check_keep, check_system, empty_keep

MOST_EQUATIONS = 80


def items_of(system):
    """The ascending tuple of all items."""
    check_system(system)
    return tuple(item_names(system))


def _check_item(system, item):
    # True is not 1 here.
    if not is_long_row(2, item) or item not in item_names(system):
        raise InvalidOperation("not an item of the system")


def item_rows(system, keep, item):
    """How many unknowns an item has, and its rows."""
    check_system(system)
    check_keep(system, keep)
    _check_item(system, item)
    found = cost_item(system, keep, item)
    return (found.many, found.rows)


def due(system, scale, forms, item):
    """What an item is due by a scale and forms."""
    check_system(system)
    if not is_short(scale) or scale < 1:
        raise InvalidNumber(scale)
    if not are_short_forms([many for _, many in system.functions], forms):
        raise InvalidForm("not a form for each function")
    _check_item(system, item)
    return cost_item(system, empty_keep(system), item).due(scale, forms)


def ledger_of(system, keep):
    """The ledger of all items: errors of these parameters."""
    check_system(system)
    check_keep(system, keep)
    return cost_ledger(system, keep)


def check_equations(ledger):
    """Refuse a ledger with too many numbers."""
    if ledger.many_equations() > MOST_EQUATIONS:
        raise TooMany(MOST_EQUATIONS)


def billed(system, keep):
    """A bill, or a crop."""
    ledger = ledger_of(system, keep)
    check_equations(ledger)
    return Account(ledger).answer("bill", "crop")


def is_bill(system, keep, value):
    """Whether the value is a bill."""
    return is_bill_for(ledger_of(system, keep), "bill", value)


def is_crop(system, keep, value):
    """Whether the value is a crop."""
    return is_crop_for(ledger_of(system, keep), "crop", value)


def check_call(system, function, values):
    """Refuse what is no function with an integer for each of its parameters."""
    if not is_from(0, len(system.functions) - 1, function):
        raise InvalidNumber(function)
    if not is_short_row(system.functions[function][1], values):
        raise InvalidForm("not an integer for each parameter of the function")


def allowed(system, keep, bill, function, values):
    """The greatest integer that is not above what a bill tells of a call."""
    if not is_bill_for(ledger_of(system, keep), "bill", bill):
        raise InvalidOperation("not a bill")
    check_call(system, function, values)
    return at_values(bill[2][function], values) // bill[1]


def spent(system, inputs, choices):
    """For each call of a run what was paid in it so far."""
    calls = calls_of(system, inputs, choices)
    costs = [0 if call.rule is None else system.rules[call.rule][3] for call in calls]
    return gathered(calls, costs, None)
