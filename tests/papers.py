"""Ranks, balances, trees, stays, bills, crops and mixtures, judged once more by what the document says of them."""
from tests import holding
from tests.judging import at


class Wrong(Exception):
    """What is no such paper."""


def need(condition):
    if not condition:
        raise Wrong


def judged(call):
    """A judge that tells True or False."""
    def judge(*args):
        try:
            call(*args)
        except Wrong:
            return False
        return True
    return judge


def row(many, value, least=None):
    """A tuple of so many integers, none below the least."""
    need(type(value) is tuple and len(value) == many and all(type(part) is int for part in value))
    need(least is None or all(part >= least for part in value))


def tuples(many, value):
    need(type(value) is tuple and (many is None or len(value) == many))


def names(value):
    """An ascending tuple of pairs of integers."""
    tuples(None, value)
    for name in value:
        row(2, name)
    need(list(value) == sorted(set(value)))


def look_at_sum(rows, told_at, many, value):
    """A sum for the rows, and a form told by what it comes to at values."""
    row(len(rows) + 2, value, 0)
    scale, further, *numbers = value
    need(scale > 0 or further > 0)
    points = [[0] * many] + [[1 if place == index else 0 for place in range(many)] for index in range(many)]
    for point in points:
        found = further + sum(number * at(told, [1, *point]) for number, told in zip(numbers, rows))
        need(scale * told_at(point) == found)


def look_at_vector(many, rows, value, first=0):
    row(many + 1, value)
    need(value[0] >= first and all(at(told, value) >= 0 for told in rows))


def look_at_flow(many, rows, value):
    if value is not None:
        tuples(2, value)
        look_at_vector(many, rows, value[0])
        look_at_vector(many, rows, value[1], 1)


def look_at_forms(system, value):
    tuples(len(system.functions), value)
    for (_, many), form in zip(system.functions, value):
        row(many + 1, form)


def source(system, edge):
    return system.rules[edge[0]][0]


def goal(system, edge):
    return system.rules[edge[0]][4][edge[1]][0]


def form_at(system, forms, function, values):
    return at(forms[function], [1, *values[:system.functions[function][1]]])


def loss_at(system, forms, edge, values):
    told = holding.called(system, edge[0], edge[1], values)
    return form_at(system, forms, source(system, edge), values) - form_at(system, forms, goal(system, edge), told)


def look_at_rank(system, keep, lot, edge, value):
    tuples(2, value)
    forms, sums = value
    look_at_forms(system, forms)
    tuples(len(lot) + 1, sums)
    for other, told in zip(lot, sums):
        many, rows, _ = holding.edge_parts(system, keep, other)
        look_at_sum(rows, lambda values: loss_at(system, forms, other, values) - (other == edge), many, told)
    many, rows, _ = holding.edge_parts(system, keep, edge)
    look_at_sum(rows, lambda values: form_at(system, forms, source(system, edge), values), many, sums[-1])


def carry(totals, function, side, numbers):
    for place in range(len(totals[function])):
        totals[function][place] += side * numbers[place]


def look_at_balance(system, keep, lot, edge, value):
    tuples(2, value)
    flows, drift = value
    tuples(len(lot), flows)
    totals = [[0] * (many + 1) for _, many in system.functions]
    for other, flow in zip(lot, flows):
        many, rows, forms = holding.edge_parts(system, keep, other)
        look_at_flow(many, rows, flow)
        if flow is not None:
            carry(totals, source(system, other), 1, flow[0])
            carry(totals, goal(system, other), -1, [flow[0][0], *[at(form, flow[0]) for form in forms]])
    own = flows[lot.index(edge)]
    need(own is not None and own[0][0] >= 1)
    many, rows, _ = holding.edge_parts(system, keep, edge)
    look_at_vector(many, rows, drift)
    need(drift[0] == 0)
    carry(totals, source(system, edge), 1, drift)
    need(not any(any(total) for total in totals))


def reach(system, lot):
    """From each function all to which at least one edge leads."""
    found = {function: {goal(system, edge) for edge in lot if source(system, edge) == function} for function in range(len(system.functions))}
    for _ in found:
        for function in found:
            found[function] |= {further for other in list(found[function]) for further in found[other]}
    return found


def parted(system, lot):
    """The components of a lot, and the edges on no ring."""
    ways = reach(system, lot)
    on_rings = [edge for edge in lot if source(system, edge) in ways[goal(system, edge)] | {goal(system, edge)}]
    components = {}
    for edge in on_rings:
        key = frozenset(function for function in ways if function in ways[source(system, edge)] and source(system, edge) in ways[function])
        components.setdefault(key, []).append(edge)
    return [tuple(found) for found in components.values()], tuple(edge for edge in lot if edge not in on_rings)


def look_at_tree(system, keep, lot, value):
    components, _ = parted(system, lot)
    tuples(len(components), value)
    for component, branch in zip(components, value):
        tuples(3, branch)
        names(branch[0])
        need(branch[0] == component)
        tuples(None, branch[1])
        need(branch[1])
        for pair in branch[1]:
            tuples(2, pair)
        taken = tuple(pair[0] for pair in branch[1])
        names(taken)
        for edge, rank in branch[1]:
            need(edge in component)
            look_at_rank(system, keep, component, edge, rank)
        look_at_tree(system, keep, tuple(edge for edge in component if edge not in taken), branch[2])


def look_at_stay(system, keep, lot, value):
    tuples(2, value)
    names(value[0])
    need(value[0] and all(edge in lot for edge in value[0]))
    tuples(len(value[0]), value[1])
    for edge, balance in zip(*value):
        look_at_balance(system, keep, value[0], edge, balance)


def items(system):
    return [(index, number) for index, told in enumerate(system.rules) for number in (range(1, len(told[4]) + 1) if told[4] else [0])]


class Prices:
    """All items, their prices and the numbers of the calls that count, by a system or by a lot."""

    def __init__(self, system, lot=None):
        self.system = system
        self.lot = lot
        self.items = items(system) if lot is None else [(rule, number + 1) for rule, number in lot]

    def price(self, item):
        return self.system.rules[item[0]][3] if self.lot is None else 1

    def calls(self, item):
        return [number for number in range(item[1]) if self.lot is None or (item[0], number) in self.lot]

    def parts(self, keep, item):
        rule, number = item
        function, unknowns = self.system.rules[rule][:2]
        ahead = max(number - 1, 0)
        many = self.system.functions[function][1] + unknowns + ahead
        return many, holding.forms_of(many, lambda values: holding.told(self.system, keep, rule, ahead, values))

    def due_at(self, scale, forms, item, values):
        rule = item[0]
        total = form_at(self.system, forms, self.system.rules[rule][0], values) - scale * self.price(item)
        for number in self.calls(item):
            callee = self.system.rules[rule][4][number][0]
            total -= form_at(self.system, forms, callee, holding.called(self.system, rule, number, values))
        return total


def look_at_bill(prices, keep, word, value):
    system = prices.system
    tuples(5, value)
    need(type(value[0]) is str and value[0] == word)
    _, scale, forms, entries, dues = value
    row(1, (scale,), 1)
    look_at_forms(system, forms)
    tuples(len(system.functions), entries)
    tuples(len(prices.items), dues)
    for function, told in enumerate(entries):
        many = system.functions[function][1]
        look_at_sum(keep[0][function], lambda values: form_at(system, forms, function, values), many, told)
    for item, told in zip(prices.items, dues):
        many, rows = prices.parts(keep, item)
        look_at_sum(rows, lambda values: prices.due_at(scale, forms, item, values), many, told)


def look_at_flows(prices, keep, flows, functions, given):
    """What is brought and given is what is taken and the functions' own; what all comes to."""
    system = prices.system
    tuples(len(prices.items), flows)
    tuples(len(system.functions), functions)
    totals = [[0] * (many + 1) for _, many in system.functions]
    for function, numbers in given:
        carry(totals, function, 1, numbers)
    price = 0
    for item, flow in zip(prices.items, flows):
        many, rows = prices.parts(keep, item)
        look_at_flow(many, rows, flow)
        if flow is not None:
            vector = flow[0]
            carry(totals, system.rules[item[0]][0], -1, vector)
            for number in prices.calls(item):
                callee, forms = system.rules[item[0]][4][number]
                carry(totals, callee, 1, [vector[0], *[sum(a * b for a, b in zip(form, vector)) for form in forms]])
            price += prices.price(item) * vector[0]
    for function, flow in enumerate(functions):
        look_at_flow(system.functions[function][1], keep[0][function], flow)
        if flow is not None:
            carry(totals, function, -1, flow[0])
    need(not any(any(total) for total in totals))
    return price


def look_at_crop(prices, keep, word, value):
    tuples(3, value)
    need(type(value[0]) is str and value[0] == word)
    need(look_at_flows(prices, keep, value[1], value[2], []) >= 1)


def look_at_mixture(prices, keep, function, values, value):
    tuples(3, value)
    row(1, value[:1], 1)
    weight = value[0]
    return look_at_flows(prices, keep, value[1], value[2], [(function, [weight, *[weight * number for number in values]])])


is_rank, is_balance, is_tree, is_stay = map(judged, (look_at_rank, look_at_balance, look_at_tree, look_at_stay))
is_bill, is_crop, is_mixture = map(judged, (look_at_bill, look_at_crop, look_at_mixture))
