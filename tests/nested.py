"""The calls of a run, one within the other, by a machine of the tests' own."""


def value(form, values):
    return form[0] + sum(number * part for number, part in zip(form[1:], values))


class Stop(Exception):
    """The choices are used up, or the next one cannot be done."""


class Made:
    """A call: the one that made it, its edge, its function and values, the rule that worked it, its inner values."""

    def __init__(self, above, edge, function, values):
        self.above = above
        self.edge = edge
        self.function = function
        self.values = values
        self.rule = None
        self.ahead = []


class Nest:
    """All calls of a run, in sequence."""

    def __init__(self, system, inputs, choices):
        self.system = system
        self.choices = list(choices)
        self.calls = []
        try:
            self.call(None, None, 0, tuple(inputs))
        except Stop:
            pass

    def call(self, above, edge, function, values):
        made = Made(above, edge, function, values)
        self.calls.append(made)
        if not self.choices:
            raise Stop
        made.rule, unknowns = self.choices.pop(0)
        _, _, _, _, calls, result = self.system.rules[made.rule]
        known = values + unknowns
        for number, (callee, forms) in enumerate(calls):
            made.ahead.append(known)
            known += (self.call(made, (made.rule, number), callee, tuple(value(form, known) for form in forms)),)
        if not calls:
            made.ahead.append(known)
        return value(result, known)

    def chain(self, made):
        """A call and all that it stands in, the innermost first."""
        found = []
        while made is not None:
            found.append(made)
            made = made.above
        return found

    def within(self, made):
        """A call and all calls that stand in it."""
        return [other for other in self.calls if made in self.chain(other)]

    def paid(self, made):
        return sum(self.system.rules[other.rule][3] for other in self.within(made) if other.rule is not None)
