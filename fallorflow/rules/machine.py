"""The plain machine: standings, runs, and what is told of them."""
from fallorflow.base.checks import is_from, is_short_row
from fallorflow.base.plain import first_below
from fallorflow.errors import InvalidChoice, InvalidForm, InvalidNumber, InvalidOperation, Refused
from fallorflow.rules.steps import fitting, hindrance, is_choice, worked
from fallorflow.rules.system import check_system

MOST_CHOICES = 2000
MAX_STRETCH = 5
MAX_DEEP = 40


class Standing:
    """What is there in a run; it never changes."""

    def __init__(self, system, inputs):
        check_system(system)
        check_inputs(system, inputs)
        at = first_below(system.start_rows, inputs)
        if at is not None:
            raise Refused(("given", at))
        self._system = system
        self._inputs = inputs
        self._call = (0, inputs)
        self._pile = ()
        self._cost = 0
        self._steps = 0
        self._result = None

    @property
    def system(self):
        """The system that is run."""
        return self._system

    @property
    def call(self):
        """The call (function, values) that is to be worked next, None behind the end."""
        return self._call

    @property
    def pile(self):
        """The rules at work, eldest first, each as (rule, values, number)."""
        return self._pile

    @property
    def cost(self):
        """What the run has paid so far."""
        return self._cost

    @property
    def steps(self):
        """How many choices the run has so far."""
        return self._steps

    @property
    def result(self):
        """The result of the first call, None ahead of its end."""
        return self._result

    def after(self, choice):
        """The standing behind a choice."""
        if not is_choice(self._system, choice):
            raise InvalidChoice("not a choice of a rule and its unknowns")
        reason = hindrance(self._system, self._call, choice)
        if reason is not None:
            raise Refused(reason)
        call, pile, result, _ = worked(self._system, self._call, self._pile, choice)
        behind = Standing(self._system, self._inputs)
        behind._call = call
        behind._pile = pile
        behind._cost = self._cost + self._system.rules[choice[0]][3]
        behind._steps = self._steps + 1
        behind._result = result
        return behind

    def __eq__(self, other):
        return (
            isinstance(other, Standing)
            and self._system == other._system
            and self._call == other._call
            and self._pile == other._pile
            and self._cost == other._cost
            and self._steps == other._steps
            and self._result == other._result
        )

    def __str__(self):
        if self._call is None:
            return f"standing behind {self._steps} steps, cost {self._cost}, ended"
        return f"standing behind {self._steps} steps, cost {self._cost}, {len(self._pile)} deep"


def check_inputs(system, inputs):
    """Refuse what is no tuple of an integer for each parameter of the function 0."""
    if not is_short_row(system.functions[0][1], inputs):
        raise InvalidForm("not an integer for each parameter of the first function")


def _check_choices(system, choices):
    if not isinstance(choices, tuple) or len(choices) > MOST_CHOICES:
        raise InvalidOperation("not a tuple of at most 2,000 choices")
    if not all([is_choice(system, choice) for choice in choices]):
        raise InvalidOperation("not a tuple of choices")


def _first_refused(standing, choices):
    # The standing behind the choices that can be done, and the index of the
    # first one that cannot, or None.
    for index, choice in enumerate(choices):
        if hindrance(standing.system, standing.call, choice) is not None:
            return (standing, index)
        standing = standing.after(choice)
    return (standing, None)


def run(system, inputs, choices):
    """The standing behind a row of choices."""
    standing = Standing(system, inputs)
    _check_choices(system, choices)
    standing, index = _first_refused(standing, choices)
    if index is not None:
        raise Refused(("choice", index))
    return standing


def is_run(system, inputs, value):
    """Whether the value is a run of at most 2,000 choices."""
    standing = Standing(system, inputs)
    if not isinstance(value, tuple) or len(value) > MOST_CHOICES:
        return False
    if not all([is_choice(system, choice) for choice in value]):
        return False
    return _first_refused(standing, value)[1] is None


def each_run(system, inputs, stretch, most):
    """Each run that is ended, has the most choices, or cannot be made longer, ascending."""
    standing = Standing(system, inputs)
    if not is_from(0, MAX_STRETCH, stretch):
        raise InvalidNumber(stretch)
    if not is_from(0, MAX_DEEP, most):
        raise InvalidNumber(most)
    yield from _runs_on(standing, (), stretch, most)


def _runs_on(standing, ahead, stretch, most):
    if most == 0 or standing.call is None:
        yield ahead
        return
    choices = fitting(standing.system, standing.call, stretch)
    if not choices:
        yield ahead
    left = most - 1
    for choice in choices:
        behind = standing.after(choice)
        longer = (*ahead, choice)
        yield from _runs_on(behind, longer, stretch, left)


def course_of(system, inputs, value, most):
    """For each beginning of a run the triple of its cost, the events of its last step, and the call worked next.

    None if the values are no inputs, or no run from them of at most so many choices.
    """
    if not is_short_row(system.functions[0][1], inputs) or first_below(system.start_rows, inputs) is not None:
        return None
    if not isinstance(value, tuple) or len(value) > most:
        return None
    call, pile, cost = (0, inputs), (), 0
    found = [(cost, [("enter", None, 0, inputs)], call)]
    for choice in value:
        if not is_choice(system, choice) or hindrance(system, call, choice) is not None:
            return None
        call, pile, _, events = worked(system, call, pile, choice)
        cost = cost + system.rules[choice[0]][3]
        found.append((cost, events, call))
    return found


def events_of(system, inputs, choices):
    """The events of a run in their sequence, the first call being entered with None.

    ("enter", edge, function, values) and ("leave", function, values, result);
    the errors are those of run.
    """
    run(system, inputs, choices)
    found = [("enter", None, 0, inputs)]
    call, pile = (0, inputs), ()
    for choice in choices:
        call, pile, _, events = worked(system, call, pile, choice)
        found.extend(events)
    return found


def entered(system, inputs, choices):
    """The pairs (edge, values) of all calls that were made, in their sequence."""
    return tuple([(event[1], event[3]) for event in events_of(system, inputs, choices) if event[0] == "enter"])


def ended(system, inputs, choices):
    """The triples (function, values, result) of all calls that ended, in that sequence."""
    return tuple([event[1:] for event in events_of(system, inputs, choices) if event[0] == "leave"])


def tally(system, inputs, choices):
    """How often each rule was chosen, and a call made by each call edge."""
    made = [edge for edge, values in entered(system, inputs, choices) if edge is not None]
    return (_counted([choice[0] for choice in choices]), _counted(made))


def _counted(found):
    counts = {}
    for member in sorted(found):
        counts[member] = counts.get(member, 0) + 1
    return counts
