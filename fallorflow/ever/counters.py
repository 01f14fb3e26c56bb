"""Plain counters: turns that go round for ever, or shelves along which all moves fall."""
from fallorflow.errors import InvalidOperation, Refused, TooMany
from fallorflow.ever.rings import MOST_LINKS
from fallorflow.ever.shelves import are_turns, is_tree_of_shelves, is_walk, moves_of, need_by, turns_or_tree, walk_by
from fallorflow.rules.system import check_system

MOST_WALK = 1000
MOST_MOVES = 24


def _moves_of(system):
    check_system(system)
    found = moves_of(system)
    if found is None:
        raise Refused(("counters",))
    return found


def are_counters(system):
    """Whether a system is one of plain counters."""
    check_system(system)
    return moves_of(system) is not None


def moves(system):
    """The ascending tuple of the moves."""
    return tuple(_moves_of(system))


def turns_or_shelves(system):
    """Even and joined turns that lose nothing, or a shelf tree for all moves."""
    found = _moves_of(system)
    if len(found) > MOST_MOVES:
        raise TooMany(MOST_MOVES)
    return turns_or_tree(system, found)


def is_turns(system, value):
    """Whether the value is even and joined turns that lose nothing."""
    return are_turns(_moves_of(system), value)


def is_shelf_tree(system, value):
    """Whether the value is a shelf tree for all moves."""
    return is_tree_of_shelves(system, _moves_of(system), value)


def walk_of(system, turns):
    """A closed walk with the turns."""
    found = _moves_of(system)
    if not are_turns(found, turns):
        raise InvalidOperation("not even and joined turns that lose nothing")
    if sum([times for _, times in turns]) > MOST_WALK:
        raise TooMany(MOST_WALK)
    return walk_by(found, turns)


def _walk_in(system, walk):
    found = _moves_of(system)
    if not is_walk(MOST_WALK, found, walk):
        raise InvalidOperation("not a closed walk")
    return found


def need_of(system, walk):
    """The least counters from which the walk can be gone."""
    return need_by(_walk_in(system, walk), walk)


def walk_ring(system, walk):
    """The ring that goes the walk."""
    _walk_in(system, walk)
    if len(walk) > MOST_LINKS:
        raise TooMany(MOST_LINKS)
    return tuple([(rule, ()) for rule in walk])
