"""Calls of runs, and what is told of each of them by what is told of their rules."""
from fallorflow.rules.machine import run
from fallorflow.rules.steps import worked


class Call:
    """A call of a run: the index of the call that made it, its edge, and the rule that worked it, None so far."""

    def __init__(self, above, edge):
        self.above = above
        self.edge = edge
        self.rule = None


def calls_of(system, inputs, choices):
    """The list of the calls of a run, in the sequence in which they were made; the errors are those of run."""
    run(system, inputs, choices)
    found = [Call(None, None)]
    call, pile = (0, inputs), ()
    # The indices of the calls whose rules are at work, as they stand in the pile.
    at_work = []
    for choice in choices:
        at_work.append(len(found) - 1)
        working = found[-1]
        working.rule = choice[0]
        call, pile, _, _ = worked(system, call, pile, choice)
        at_work = at_work[:len(pile)]
        if call is not None:
            found.append(Call(at_work[-1], (pile[-1][0], pile[-1][2])))
    return found


def gathered(calls, told, lot):
    """For each call what is told of it and of all calls that come of it, along edges of a lot, None for all edges."""
    totals = list(told)
    for at in reversed(range(len(calls))):
        call = calls[at]
        if call.above is not None and (lot is None or call.edge in lot):
            totals[call.above] = totals[call.above] + totals[at]
    return tuple(totals)
