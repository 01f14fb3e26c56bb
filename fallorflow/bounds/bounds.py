"""Bounds: how often calls are made, how great arguments become, what is paid, and how many steps come at most."""
from fallorflow.bounds.plan import Plan, is_refusal_for
from fallorflow.bounds.polys import MAX_TERMS
from fallorflow.bounds.reckoning import reckoned
from fallorflow.bounds.sizes import is_sizing_for, sizing_of
from fallorflow.bounds.steps import steps_of
from fallorflow.errors import InvalidOperation, TooMany
from fallorflow.fall.levels import is_tree_for
from fallorflow.fall.lot import Lot
from fallorflow.rules.machine import check_inputs
from fallorflow.rules.system import all_edges, check_keep, check_system

MOST_ROUNDS = 3000


def _whole_lot(system, keep):
    check_system(system)
    check_keep(system, keep)
    return Lot(system, keep, all_edges(system))


def _lot_with(system, keep, tree, sizes):
    lot = _whole_lot(system, keep)
    if not is_tree_for(lot, tree):
        raise InvalidOperation("not a tree for all call edges")
    if not is_sizing_for(lot, sizes):
        raise InvalidOperation("not a sizing")
    return lot


def _plan_with(system, keep, tree, sizes, item):
    plan = Plan(system, _lot_with(system, keep, tree, sizes), tree, sizes)
    if not plan.is_item(item):
        raise InvalidOperation("not an item")
    return plan


def sizing(system, keep):
    """A sizing in which only those arguments are "outside" that no number and no parameter leads."""
    return sizing_of(_whole_lot(system, keep))


def is_sizing(system, keep, value):
    """Whether the value is a sizing."""
    return is_sizing_for(_whole_lot(system, keep), value)


def bound(system, keep, tree, sizes, item):
    """The poly of an item, or a refusal."""
    found = reckoned(_plan_with(system, keep, tree, sizes, item), item)
    if found is None:
        raise TooMany(MAX_TERMS)
    return found


def is_refusal(system, keep, tree, sizes, item, value):
    """Whether the value is a refusal of the item."""
    return is_refusal_for(_plan_with(system, keep, tree, sizes, item), item, value)


def steps_at_most(system, keep, tree, sizes, inputs):
    """How many rules each run from the inputs chooses at most."""
    lot = _lot_with(system, keep, tree, sizes)
    check_inputs(system, inputs)
    return steps_of(system, lot, tree, sizes, inputs, MOST_ROUNDS)
