"""Whole answers: claims about a system, each with a paper that the checker takes."""
from fallorflow.base.checks import is_from
from fallorflow.base.plain import first_below
from fallorflow.bills.bills import billed
from fallorflow.bills.least import least_bill
from fallorflow.bounds.plan import Plan
from fallorflow.bounds.polys import MAX_TERMS, poly_value
from fallorflow.bounds.reckoning import reckoned
from fallorflow.bounds.sizes import sizing_of
from fallorflow.check.papers import sizes_of
from fallorflow.errors import InvalidNumber, Refused, TooMany
from fallorflow.ever.circling import break_of, paper_by_shift, round_by, shift_by
from fallorflow.ever.counters import MOST_MOVES
from fallorflow.ever.looking import Links
from fallorflow.ever.rings import MOST_AHEAD
from fallorflow.ever.shelves import moves_of, turns_or_tree
from fallorflow.fall.lot import Lot
from fallorflow.fall.trees import tree_or_stay
from fallorflow.hold.closed import opening
from fallorflow.hold.keeps import check_candidates, check_duties, greatest_of
from fallorflow.rules.machine import check_inputs, run
from fallorflow.rules.system import all_edges, check_system, edge_goal, edge_source, told_ahead
from fallorflow.rules.ways import reached_from

MOST_LINKS = 3
MOST_RINGS = 2000
# How far the picks of rings that are looked at go.
MOST_PICKED = 1


def _check(system, keep):
    check_system(system)
    check_candidates(system, keep)


def _held(system, keep):
    # The greatest keep within candidates, and the sums that show that it is inductive.
    check_duties(system, keep)
    growth = greatest_of(system, keep)
    return (growth.now(), growth.paper())


def _bars_of(system, keep):
    # The dict from the call edges that are closed by a keep to bars.
    found = {}
    for edge in all_edges(system):
        word, shown = opening(told_ahead(system, keep, edge[0], edge[1]))
        if word == "closed":
            found[edge] = shown
    return found


def _ending(system, held):
    keep, sums = held
    bars = _bars_of(system, keep)
    opened = [edge for edge in all_edges(system) if edge not in bars]
    reached = reached_from(0, [(edge_source(system, edge), edge_goal(system, edge)) for edge in opened])
    lot = tuple([edge for edge in opened if edge_source(system, edge) in reached])
    word, found = tree_or_stay(system, keep, lot)
    if word == "stay":
        return (("stays", system, keep, lot), found)
    shut = tuple([bars.get(edge) for edge in all_edges(system) if edge not in lot])
    return (("ends", system), (keep, sums, lot, shut, found))


def _counting(system):
    # The pair for plain counters with not too many moves, or nothing.
    moves = moves_of(system)
    if moves is None or len(moves) > MOST_MOVES:
        return ()
    word, found = turns_or_tree(system, moves)
    kind = "counters go on" if word == "turns" else "counters end"
    return (((kind, system), found),)


def ending(system, keep):
    """Whether the system ends, as far as ranks show it; what plain counters do."""
    _check(system, keep)
    return (_ending(system, _held(system, keep)), *_counting(system))


def _costing(system, held):
    keep = held[0]
    found = billed(system, keep)
    return (("billed" if found[0] == "bill" else "cropped", system, keep), found)


def costing(system, keep):
    """A bill for the system, or a crop."""
    _check(system, keep)
    return (_costing(system, _held(system, keep)),)


def _bounding(system, held):
    keep, sums = held
    edges = all_edges(system)
    word, found = tree_or_stay(system, keep, edges)
    if word == "stay":
        return ("open", ((("stays", system, keep, edges), found),))
    lot = Lot(system, keep, edges)
    sizes = sizing_of(lot)
    answer = reckoned(Plan(system, lot, found, sizes), ("cost",))
    if answer is None:
        raise TooMany(MAX_TERMS)
    if answer[0] == "refused":
        return ("refused", found, sizes, answer[1])
    return ("within", ((("within", system, answer[1]), (keep, sums, found, sizes)),))


def bounding(system, keep):
    """A poly that no run costs more than, a stay, or why there is no poly."""
    _check(system, keep)
    return _bounding(system, _held(system, keep))


def priced(system, keep, inputs):
    """What runs from the inputs cost at most."""
    _check(system, keep)
    check_inputs(system, inputs)
    at = first_below(system.start_rows, inputs)
    if at is not None:
        raise Refused(("given", at))
    held = _held(system, keep)
    found = least_bill(system, held[0], 0, inputs)
    if found[0] == "least":
        _, fraction, bill, mixture = found
        most = ("at most", system, inputs, fraction[0] // fraction[1])
        return (
            (("least", system, held[0], 0, inputs, fraction), (bill, mixture)),
            (most, ("bill", *held, bill)),
        )
    word, *told = _bounding(system, held)
    if word != "within":
        return ()
    (_, _, poly), (_, _, tree, sizes) = told[0][0]
    return ((("at most", system, inputs, poly_value(poly, sizes_of(inputs))), ("bound", *held, tree, sizes)),)


def _rings_of(system, function, links):
    # All rings of a function with at most so many links: they are counted before they are put together.
    found = Links(system, MOST_PICKED)
    back = found.ways_back(function, links)
    if sum([counts.get(function, 0) for counts in back[1:]]) > MOST_RINGS:
        raise TooMany(MOST_RINGS)
    rings = []
    for number in range(1, links + 1):
        rings.extend(found.rings(function, number))
    return rings


def gone_round(system, inputs, choices, links):
    """A ring of few links that goes round for ever behind a run, None if there is none with plain picks."""
    standing = run(system, inputs, choices)
    if not is_from(1, MOST_LINKS, links):
        raise InvalidNumber(links)
    if len(choices) > MOST_AHEAD:
        raise TooMany(MOST_AHEAD)
    if standing.call is None:
        raise Refused(("ended",))
    function, values = standing.call
    for ring in _rings_of(system, function, links):
        turn = round_by(system, ring)
        if shift_by(turn[1]) is not None and break_of(turn, values) is None:
            return ((("for ever", system), ("ring", paper_by_shift(inputs, choices, ring, turn))),)
    return None


def survey(system, keep):
    """The kinds of what `costing`, `bounding` and `ending` answer."""
    _check(system, keep)
    held = _held(system, keep)
    return {
        "bill": _costing(system, held)[0][0],
        "bound": _bounding(system, held)[0],
        "ending": _ending(system, held)[0][0],
    }
