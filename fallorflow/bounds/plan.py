"""Plans: what the rule of bounds names for each item, and which items are bad."""
from fallorflow.base.checks import is_from, is_long_row
from fallorflow.bounds.sizes import told_sizes
from fallorflow.rules.ways import rings


class Branch:
    """A branch of a tree: the number of its ring, forms of its ranks, its other edges, and its inlets.

    Outer inlets lie outside of the ring; the start is one of them if it begins here.
    """

    def __init__(self, lot, ring, circle, branch):
        edges, ranks, tree = branch
        self.ring = ring
        self.forms = {edge: rank[0] for edge, rank in ranks}
        self.places = sorted({lot.told[edge].goal: True for edge in edges})
        taken = {edge: True for part in tree for edge in part[0]}
        self.others = [edge for edge in edges if edge not in taken and edge not in self.forms]
        leading = [edge for edge in lot.edges if lot.told[edge].goal in self.places]
        self.outer = [edge for edge in leading if edge not in circle]
        self.inner = [edge for edge in leading if edge in circle and edge not in edges]
        self.does_begin = 0 in self.places


class Loop:
    """Pairs of ring edges and arguments that feed one another, at some pairs of functions and parameters."""

    def __init__(self, lot, told, pairs, places):
        self.pairs = pairs
        self.first = min(pairs)
        self.starts = [at for function, at in places if function == 0]
        self.feeding = []
        for pair in told:
            edge, at = pair
            if (lot.told[edge].goal, at) in places and pair not in pairs:
                self.feeding.append(pair)
        self.is_growing = False
        # For each edge the rests of its pairs: told sizes in which what the loop feeds is 0.
        self.rests = {}
        for edge, at in pairs:
            size = told[(edge, at)]
            function = lot.told[edge].source
            fed = [number if (function, place) in places else 0 for place, number in enumerate(size[1:])]
            self.is_growing = self.is_growing or sum(fed) > 1
            rest = (size[0], *[number - own for number, own in zip(size[1:], fed)])
            self.rests.setdefault(edge, []).append(rest)
        self.turning = [edge for edge in self.rests if any([any(rest) for rest in self.rests[edge]])]


class Plan:
    """What bounds are reckoned from: a lot of all call edges, a tree and a sizing for it."""

    def __init__(self, system, lot, tree, sizes):
        self.told_rules = system.rules
        self.lot = lot
        self.told = told_sizes(lot, sizes)
        self.circles = [branch[0] for branch in tree]
        self.ring_of = {edge: ring for ring, circle in enumerate(self.circles) for edge in circle}
        self.ring_at = {lot.told[edge].goal: ring for edge, ring in self.ring_of.items()}
        self.are_forked = [len({edge[0]: True for edge in circle}) < len(circle) for circle in self.circles]
        self.leading = {function: [] for function in range(len(lot.sizes))}
        for edge in lot.edges:
            self.leading[lot.told[edge].goal].append(edge)
        self.branches = {}
        ahead = list(enumerate(tree))
        while ahead:
            ring, branch = ahead.pop()
            found = Branch(lot, ring, self.circles[ring], branch)
            for edge in (*found.forms, *found.others):
                self.branches[edge] = found
            ahead.extend([(ring, part) for part in branch[2]])
        self.loops = self.loops_by_pairs()
        self.known = {}

    def loops_by_pairs(self):
        """The dict from the pairs of ring edges and arguments that stand in a loop to their loops."""
        named, arrows = [], []
        for pair, size in self.told.items():
            edge, at = pair
            if edge in self.ring_of and size is not None:
                told = self.lot.told[edge]
                for place, number in enumerate(size[1:]):
                    if number:
                        named.append(pair)
                        arrows.append(((told.source, place), (told.goal, at)))
        pairs, places = {}, {}
        for pair, (place, _), component in zip(named, arrows, rings(arrows)):
            if component is not None:
                pairs.setdefault(component, {})[pair] = True
                places.setdefault(component, {})[place] = True
        found = {}
        for component in pairs:
            loop = Loop(self.lot, self.told, pairs[component], places[component])
            found.update({pair: loop for pair in pairs[component]})
        return found

    def entering(self, ring):
        """The edges from outside of a ring that lead to a function of it."""
        found = []
        for function, other in self.ring_at.items():
            if other == ring:
                found.extend([edge for edge in self.leading[function] if edge not in self.ring_of])
        return found

    def ring_call(self, rule):
        """The first call of a rule that is a ring edge of the ring of its function, or None."""
        for number in range(len(self.told_rules[rule][4])):
            edge = (rule, number)
            if edge in self.ring_of:
                return edge
        return None

    def is_item(self, value):
        """Whether the value is an item."""
        if not isinstance(value, tuple) or not value or not isinstance(value[0], str):
            return False
        if value == ("cost",):
            return True
        if value[0] == "size":
            return len(value) == 3 and self.is_edge(value[1]) and is_from(0, 4, value[2]) and value[1:] in self.told
        if len(value) != 2:
            return False
        if value[0] == "rule":
            return is_from(0, len(self.told_rules) - 1, value[1])
        if value[0] == "calls":
            return self.is_edge(value[1])
        return value[0] == "turns" and self.is_edge(value[1]) and value[1] in self.ring_of

    def is_edge(self, value):
        """Whether the value is a call edge."""
        return is_long_row(2, value) and value in self.lot.told

    def is_bad(self, item):
        """Whether an item has no bound of its own."""
        word = item[0]
        if word == "size":
            pair = item[1:]
            return self.told[pair] is None or (pair in self.loops and self.loops[pair].is_growing)
        if word == "turns":
            return self.are_forked[self.ring_of[item[1]]]
        if word == "rule":
            ring = self.ring_at.get(self.told_rules[item[1]][0])
            return ring is not None and self.are_forked[ring]
        return False

    def needs(self, item):
        """The items on which an item hangs: the keys of a dict."""
        lead = item
        if item[0] == "size" and item[1:] in self.loops:
            # All pairs of a loop hang on the same.
            lead = ("size", *self.loops[item[1:]].first)
        if lead not in self.known:
            self.known[lead] = {other: True for other in self.needs_of(lead)}
        return self.known[lead]

    def needs_of(self, item):
        """The list of these items, perhaps some of them twice."""
        word = item[0]
        if word == "cost":
            return [("rule", index) for index, rule in enumerate(self.told_rules) if rule[3] > 0]
        if word == "rule":
            return self.needs_of_rule(item[1])
        if word == "calls":
            edge = item[1]
            if edge not in self.ring_of:
                return [("rule", edge[0])]
            entering = self.entering(self.ring_of[edge])
            return [*[("calls", other) for other in entering], ("turns", edge)]
        if word == "turns":
            return self.needs_of_turns(item[1])
        return self.needs_of_size(item[1:])

    def needs_of_rule(self, rule):
        """What the count of a rule hangs on."""
        function = self.told_rules[rule][0]
        if function not in self.ring_at:
            return [("calls", edge) for edge in self.leading[function]]
        edge = self.ring_call(rule)
        if edge is not None:
            return [("calls", edge)]
        return [("calls", other) for other in self.entering(self.ring_at[function])]

    def needs_of_turns(self, edge):
        """What the turns of a ring edge hang on."""
        branch = self.branches[edge]
        found = [("turns", inlet) for inlet in branch.inner]
        if edge not in branch.forms:
            return [*found, *[("turns", other) for other in branch.forms]]
        forms = branch.forms[edge]
        for inlet in (*branch.outer, *branch.inner):
            form = forms[self.lot.told[inlet].goal]
            found.extend([("size", inlet, at) for at, number in enumerate(form[1:]) if number])
        return found

    def needs_of_size(self, pair):
        """What the size of an argument hangs on."""
        told = self.told[pair]
        if told is None:
            return []
        if pair not in self.loops:
            return self.sizes_needed(self.lot.told[pair[0]].source, told)
        loop = self.loops[pair]
        found = [("size", *other) for other in loop.feeding]
        found.extend([("turns", edge) for edge in loop.turning])
        for edge in loop.turning:
            for rest in loop.rests[edge]:
                found.extend(self.sizes_needed(self.lot.told[edge].source, rest))
        return found

    def sizes_needed(self, function, told):
        """The sizes at a function that a told size names."""
        return [("size", edge, at) for at, number in enumerate(told[1:]) if number for edge in self.leading[function]]


def order_or_refusal(plan, item):
    """("order", items): all on which an item hangs, none ahead of what it hangs on, or ("refused", refusal)."""
    if plan.is_bad(item):
        return ("refused", (item,))
    order = []
    is_done = {item: False}
    way, left = [item], [list(plan.needs(item))]
    while way:
        if left[-1]:
            further = left[-1].pop()
            if plan.is_bad(further) or is_done.get(further, True) is False:
                return ("refused", (*way, further))
            if further not in is_done:
                is_done[further] = False
                way.append(further)
                left.append(list(plan.needs(further)))
        else:
            left.pop()
            order.append(way.pop())
            is_done[order[-1]] = True
    return ("order", order)


def is_refusal_for(plan, item, value):
    """Whether the value is a refusal of an item."""
    if not isinstance(value, tuple) or not value or not all([plan.is_item(part) for part in value]):
        return False
    if value[0] != item:
        return False
    for at in range(len(value) - 1):
        if value[at + 1] not in plan.needs(value[at]):
            return False
    return plan.is_bad(value[-1]) or value[-1] in value[:-1]
