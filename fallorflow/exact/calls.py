"""Calls that runs enter with unknowns within a stretch, and which of them can end.

A step of a call is a choice that fits it, with the calls of its rule. Of steps
with equal calls one alone is kept, the one that costs most.
"""
from fallorflow.base.plain import at_values
from fallorflow.rules.steps import numbers_within


def rule_with_result(system):
    """The first rule in which an argument names a result, or None."""
    for index, (function, unknowns, _, _, calls, _) in enumerate(system.rules):
        first = system.functions[function][1] + unknowns + 1
        for _, forms in calls:
            if any([any(form[first:]) for form in forms]):
                return index
    return None


def _part(form, first, numbers):
    # What some numbers behind the first ones add to a form.
    return sum([number * part for number, part in zip(form[first:], numbers)])


class Way:
    """A rule, for its choices: what unknowns add to the rows of its guard, and to its arguments."""

    def __init__(self, system, index, stretch):
        self.rule = index
        function, unknowns, guard, self.price, calls, _ = system.rules[index]
        first = system.functions[function][1] + 1
        self.first = first
        self.guard = [row for row in guard if not any(row[first:])]
        self.rows = [row for row in guard if any(row[first:])]
        self.callees = [callee for callee, _ in calls]
        self.forms = [form for _, forms in calls for form in forms]
        self.sizes = [len(forms) for _, forms in calls]
        # By what the arguments become: the choices, with what they add to the rows.
        self.groups = {}
        for numbers in numbers_within(unknowns, stretch):
            added = tuple([_part(form, first, numbers) for form in self.forms])
            rows = [_part(row, first, numbers) for row in self.rows]
            self.groups.setdefault(added, []).append((numbers, rows))

    def steps_at(self, values):
        """The list of the pairs (choice, calls) that fit values, each of other calls than those ahead of it."""
        if any([at_values(row[:self.first], values) < 0 for row in self.guard]):
            return []
        least = [-at_values(row[:self.first], values) for row in self.rows]
        base = [at_values(form[:self.first], values) for form in self.forms]
        found = []
        for added, choices in self.groups.items():
            numbers = _first_fitting(choices, least)
            if numbers is not None:
                found.append(((self.rule, numbers), self.calls_at(base, added)))
        return found

    def calls_at(self, base, added):
        """The calls of the rule, by its arguments."""
        told = [mine + yours for mine, yours in zip(base, added)]
        found = []
        for callee, size in zip(self.callees, self.sizes):
            found.append((callee, tuple(told[:size])))
            told = told[size:]
        return tuple(found)


def _first_fitting(choices, least):
    for numbers, rows in choices:
        is_fit = True
        for number, bound in zip(rows, least):
            if number < bound:
                is_fit = False
                break
        if is_fit:
            return numbers
    return None


class Survey:
    """The calls that runs enter, their steps, and those that can end, with heights and choices: a changing class.

    If more than so many calls are entered, this is told, and it is left as it was then.
    """

    def __init__(self, system, inputs, stretch, most):
        self.most = most
        self.ways = {function: [] for function in range(len(system.functions))}
        for index, rule in enumerate(system.rules):
            self.ways[rule[0]].append(Way(system, index, stretch))
        self.start = (0, inputs)
        # For each entered call its steps, by their calls: the cost and the choice.
        self.ways_on = {}
        # For each call that can end a height and a choice.
        self.endings = {}
        # For each call the steps that wait for its end, and those that do so no more.
        self.waiting = {}
        self.woken = []
        self.ahead = [self.start]
        self.is_above = False
        while not self.is_above and (self.ahead or self.woken):
            if self.woken:
                call, choice, calls = self.woken.pop()
                self.go_on(call, choice, calls)
            else:
                self.look(self.ahead.pop())

    def look(self, call):
        """Enter a call, if it was not, and look at its steps."""
        if call in self.ways_on:
            return
        if len(self.ways_on) == self.most:
            self.is_above = True
            return
        found = {}
        for way in self.ways[call[0]]:
            for choice, calls in way.steps_at(call[1]):
                if calls not in found or found[calls][0] < way.price:
                    found[calls] = (way.price, choice)
        self.ways_on[call] = found
        for calls, (_, choice) in found.items():
            self.go_on(call, choice, calls)

    def go_on(self, call, choice, calls):
        """Enter the calls of a step, as far as those ahead of them can end; if all can, the call can."""
        height = 0
        for further in calls:
            if further not in self.ways_on:
                self.ahead.append(further)
            if further not in self.endings:
                self.waiting.setdefault(further, []).append((call, choice, calls))
                return
            height = max(height, self.endings[further][0] + 1)
        if call not in self.endings:
            self.endings[call] = (height, choice)
            self.woken.extend(self.waiting.pop(call, []))

    def entered(self, calls):
        """Those calls of a step that are entered."""
        return calls[:1] if len(calls) == 2 and calls[0] not in self.endings else calls
