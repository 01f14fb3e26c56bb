"""Trees of falling for lots of call edges, and stays of what nothing takes out."""
from fallorflow.errors import InvalidOperation
from fallorflow.fall.levels import Descent, is_stay_for, is_tree_for, without_ranks
from fallorflow.fall.ranks import check_place, check_rows_of, lot_of, times_at
from fallorflow.rules.ways import height, parted


def _descent(system, keep, edges):
    lot = lot_of(system, keep, edges)
    check_rows_of(lot)
    return Descent(lot)


def tree_or_stay(system, keep, edges):
    """A tree for the lot, or the stay of most edges within it."""
    descent = _descent(system, keep, edges)
    return ("stay", descent.stay()) if descent.staying() else ("tree", descent.tree())


def is_tree(system, keep, edges, value):
    """Whether the value is a tree for the lot."""
    return is_tree_for(lot_of(system, keep, edges), value)


def is_stay(system, keep, edges, value):
    """Whether the value is a stay within the lot."""
    return is_stay_for(lot_of(system, keep, edges), value)


def left_over(system, keep, edges):
    """The edges of the greatest stay, ascending."""
    return _descent(system, keep, edges).staying()


def rounds(system, keep, edges):
    """The dict from the edges that are taken out to their rounds."""
    found = _descent(system, keep, edges).rounds
    return {edge: found[edge] for edge in sorted(found)}


def measure(system, keep, edges, tree, function, values):
    """What falls along each edge of a lot with a tree, at a function with values."""
    lot = lot_of(system, keep, edges)
    if not is_tree_for(lot, tree):
        raise InvalidOperation("not a tree for the lot")
    check_place(system, function, values)
    found = []
    left, told = edges, tree
    while True:
        arrows = lot.arrows(left)
        components, through = parted(left, arrows)
        found.append(height(function, arrows, [1 if edge in through else 0 for edge in left]))
        at = _component_from(lot, components, function)
        if at is None:
            return tuple(found)
        branch = told[at]
        found.extend([times_at(forms[function], values) for _, (forms, _) in branch[1]])
        left, told = without_ranks(branch), branch[2]


def _component_from(lot, components, function):
    # The index of the component an edge of which begins at the function, or None.
    for at, component in enumerate(components):
        if any([lot.told[edge].source == function for edge in component]):
            return at
    return None
