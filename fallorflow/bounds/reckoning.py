"""What the rule of bounds reckons for items: polys over the sizes of the inputs."""
from fallorflow.bounds.plan import order_or_refusal
from fallorflow.bounds.polys import MAX_TERMS, is_fit, ordered
from fallorflow.bounds.terms import constant_of, join_of, product_of, size_of, sum_of, times_of


class Reckoning:
    """The polys of items, each being reckoned behind those on which it hangs: a changing class."""

    def __init__(self, plan):
        self.plan = plan
        self.many = plan.lot.sizes[0]
        self.polys = {}
        self.joins = {}
        self.entries = {}
        self.circling = {}

    def reckon(self, item):
        """Find the poly of an item; whether it is within the bounds."""
        word = item[0]
        if word == "cost":
            found = self.paid()
        elif word == "rule":
            found = self.rule(item[1])
        elif word == "calls":
            found = self.called(item[1])
        elif word == "turns":
            found = self.turns(item[1])
        else:
            found = self.size(item[1:])
        self.polys[item] = found
        return is_fit(found)

    def one(self):
        """The poly that is 1."""
        return constant_of(1, self.many)

    def paid(self):
        """What is paid."""
        return sum_of([
            times_of(rule[3], self.polys[("rule", index)])
            for index, rule in enumerate(self.plan.told_rules) if rule[3] > 0
        ])

    def begun(self, edges, does_begin):
        """How often some edges are called, and once more if the function 0 is among those that they lead to."""
        found = [self.polys[("calls", edge)] for edge in edges]
        return sum_of([*found, self.one()] if does_begin else found)

    def entered(self, ring):
        """How often a ring is entered."""
        if ring not in self.entries:
            does_begin = self.plan.ring_at.get(0) == ring
            self.entries[ring] = self.begun(self.plan.entering(ring), does_begin)
        return self.entries[ring]

    def rule(self, index):
        """How often a rule is chosen."""
        plan = self.plan
        function = plan.told_rules[index][0]
        if function not in plan.ring_at:
            return self.begun(plan.leading[function], function == 0)
        edge = plan.ring_call(index)
        if edge is None:
            return self.entered(plan.ring_at[function])
        return self.begun([edge], edge[1] > 0)

    def called(self, edge):
        """How often an edge is called."""
        plan = self.plan
        if edge not in plan.ring_of:
            return self.polys[("rule", edge[0])]
        return product_of(self.entered(plan.ring_of[edge]), self.polys[("turns", edge)], MAX_TERMS)

    def turns(self, edge):
        """How often a ring edge comes for one entry into its ring."""
        branch = self.plan.branches[edge]
        inner = [self.polys[("turns", inlet)] for inlet in branch.inner]
        if edge not in branch.forms:
            ranked = [self.polys[("turns", other)] for other in branch.forms]
            is_entered = branch.outer or branch.does_begin
            return sum_of([*inner, *ranked, self.one()] if is_entered else [*inner, *ranked])
        forms = branch.forms[edge]
        outer = [self.form_size(forms, inlet) for inlet in branch.outer]
        if branch.does_begin:
            outer.append(self.size_by(forms[0], [size_of(at, self.many) for at in range(self.many)]))
        found = [join_of(outer)]
        for inlet, times in zip(branch.inner, inner):
            found.append(product_of(times, self.form_size(forms, inlet), MAX_TERMS))
        return sum_of(found)

    def form_size(self, forms, inlet):
        """The size of the form of the function to which an inlet leads."""
        form = forms[self.plan.lot.told[inlet].goal]
        return self.size_by(form, [self.polys.get(("size", inlet, at), {}) for at in range(len(form) - 1)])

    def size_by(self, form, sizes):
        """The size of a form by the sizes of its unknowns; those that it does not have may lack."""
        told = [times_of(abs(number), size) for number, size in zip(form[1:], sizes)]
        return sum_of([constant_of(max(0, 1 + form[0]), self.many), *told])

    def size(self, pair):
        """How great an argument is."""
        plan = self.plan
        if pair not in plan.loops:
            return self.told_size(plan.lot.told[pair[0]].source, plan.told[pair])
        loop = plan.loops[pair]
        if loop.first not in self.circling:
            self.circling[loop.first] = self.loop_size(loop)
        return self.circling[loop.first]

    def told_size(self, function, told):
        """The poly of a told size at a function."""
        found = [constant_of(told[0], self.many)]
        for at, number in enumerate(told[1:]):
            if number:
                found.append(times_of(number, self.joined(function, at)))
        return sum_of(found)

    def joined(self, function, at):
        """The join of the sizes with which a parameter of a function is called."""
        if (function, at) not in self.joins:
            found = [self.polys[("size", edge, at)] for edge in self.plan.leading[function]]
            if function == 0:
                found.append(size_of(at, self.many))
            self.joins[(function, at)] = join_of(found)
        return self.joins[(function, at)]

    def loop_size(self, loop):
        """The size of all arguments of a loop."""
        feeding = [self.polys[("size", edge, at)] for edge, at in loop.feeding]
        found = [join_of([*feeding, *[size_of(at, self.many) for at in loop.starts]])]
        for edge in loop.turning:
            source = self.plan.lot.told[edge].source
            rest = join_of([self.told_size(source, told) for told in loop.rests[edge]])
            found.append(product_of(self.polys[("turns", edge)], rest, MAX_TERMS))
        return sum_of(found)


def reckoned(plan, item):
    """("within", poly), ("refused", refusal), or None if there is no poly within the bounds."""
    word, found = order_or_refusal(plan, item)
    if word == "refused":
        return (word, found)
    reckoning = Reckoning(plan)
    for other in found:
        if not reckoning.reckon(other):
            return None
    return ("within", ordered(reckoning.polys[item]))
