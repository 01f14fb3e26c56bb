"""The plain machine once more, worked by recursion over calls, and all runs of small systems."""


def value(form, values):
    return form[0] + sum(number * part for number, part in zip(form[1:], values))


class Stop(Exception):
    """The choices are used up, or the next one cannot be done."""


class Walk:
    """What comes of choices: how many can be done, what is made, what ends, and what it costs."""

    def __init__(self, system, inputs, choices):
        self.system = system
        self.choices = list(choices)
        self.done = 0
        self.cost = 0
        self.made = []
        self.ends = []
        self.rows = []
        self.waiting = None
        self.result = None
        try:
            self.result = self.call(None, 0, tuple(inputs))
        except Stop:
            pass

    def call(self, edge, function, values):
        self.made.append((edge, values))
        self.waiting = (function, values)
        if self.done == len(self.choices):
            raise Stop
        index, unknowns = self.choices[self.done]
        owner, _, guard, cost, calls, result = self.system.rules[index]
        known = values + unknowns
        if owner != function or any(value(row, known) < 0 for row in guard):
            raise Stop
        self.done += 1
        self.cost += cost
        self.rows.append([index, known, 0])
        for number, (callee, forms) in enumerate(calls):
            self.rows[-1] = [index, known, number]
            known += (self.call((index, number), callee, tuple(value(form, known) for form in forms)),)
        self.rows.pop()
        self.waiting = None
        found = value(result, known)
        self.ends.append((function, values, found))
        return found

    def pile(self):
        return tuple(tuple(row) for row in self.rows)


def all_choices(system, stretch):
    """All choices with unknowns within the stretch, whether they fit or not, ascending."""
    numbers = range(-stretch, stretch + 1)
    found = []
    for index, rule in enumerate(system.rules):
        lots = {0: [()], 1: [(a,) for a in numbers], 2: [(a, b) for a in numbers for b in numbers]}
        found.extend((index, lot) for lot in lots[rule[1]])
    return found


def all_runs(system, inputs, stretch, most):
    """All runs as each_run tells them, made by trying all rows of choices, shorter ones first."""
    choices = all_choices(system, stretch)
    found, level = [], [()]
    for length in range(most + 1):
        longer = []
        for ahead in level:
            further = [(*ahead, choice) for choice in choices] if length < most else []
            fitting = [row for row in further if Walk(system, inputs, row).done == length + 1]
            longer.extend(fitting)
            if not fitting:
                found.append(ahead)
        level = longer
    return sorted(found)
