"""Systems in which an answer is hidden: ranks, balances, bills and crops that are known from how they are made."""
from fallorflow.rules.system import System
from tests import holding, papers
from tests.draws import NAMES, form
from tests.judging import at


def total(many, told):
    """The form over so many unknowns that is a sum of forms, each so many times."""
    return tuple(sum(number * row[place] for number, row in told) for place in range(many + 1))


def through(draw, values, goal):
    """Arguments that lead from some values to some others: a drawn form each, but for its first number."""
    found = []
    for number in goal:
        told = form(draw, len(values), 2)[1:]
        found.append((number - sum(a * b for a, b in zip(told, values)), *told))
    return tuple(found)


def holds(draw, many, *vectors):
    """A drawn row that holds at points and directions."""
    while True:
        found = form(draw, many, 3)
        if all(at(found, vector) >= 0 for vector in vectors):
            return found


def rank(draw):
    """(system, keep, lot, edge, rank): all edges fall, or stay, by forms that were drawn; at the edge by 1 at least."""
    functions = tuple((name, draw.randint(0, 3)) for name in draw.sample(NAMES, draw.randint(1, 3)))
    forms = tuple(form(draw, many, 3) for _, many in functions)
    rules, sums = [], []
    chosen = draw.randrange(4)
    for index in range(4):
        function, callee = draw.randrange(len(functions)), draw.randrange(len(functions))
        unknowns = draw.randint(0, 1)
        many = functions[function][1] + unknowns
        told = tuple(form(draw, many, 2) for _ in range(functions[callee][1]))
        draft = System(functions, ((function, unknowns, (), 0, ((callee, told),), (0,) * (many + 2)),))
        loss = holding.forms_of(many, lambda values: [papers.loss_at(draft, forms, (0, 0), values) - (index == chosen)])[0]
        rows = [form(draw, many, 2) for _ in range(draw.randint(0, 2))]
        numbers = [draw.randint(0, 2) for _ in rows]
        further = draw.randint(0, 2)
        rows.append(total(many, [(1, loss), (-further, (1,) + (0,) * many), *[(-number, row) for number, row in zip(numbers, rows)]]))
        if index == chosen:
            rows.append((forms[function] + (0,) * unknowns))
            sums.append((1, further, *numbers, 1, 0))
            bound = (1, 0, *[0 for _ in numbers], 0, 1)
        else:
            sums.append((1, further, *numbers, 1))
        rules.append((function, unknowns, tuple(rows), draw.randint(0, 2), ((callee, told),), (0,) * (many + 2)))
    system = System(functions, tuple(rules))
    lot = tuple((index, 0) for index in range(4))
    keep = (tuple(tuple(form(draw, many, 1) for _ in range(draw.randint(0, 1))) for _, many in functions), tuple(() for _ in functions))
    longer = []
    for (index, _), told in zip([*lot, lot[chosen]], [*sums, bound]):
        entries = len(keep[0][system.rules[index][0]])
        longer.append((*told[:2], *[0] * entries, *told[2:]))
    return system, keep, lot, lot[chosen], (forms, tuple(longer))


def stairs(many):
    """A function of so many parameters: a rule for each of them lowers it, those behind it become anything."""
    rules = []
    for place in range(many):
        unknowns = min(2, many - 1 - place)
        told = [tuple(1 if spot == at + 1 else 0 for spot in range(many + unknowns + 1)) for at in range(many + unknowns)]
        lower = (-1, *told[place][1:])
        behind = [told[many + number % unknowns] for number in range(many - 1 - place)] if unknowns else []
        rules.append((0, unknowns, (lower,), 1, ((0, (*told[:place], lower, *behind)),), (0,) * (many + unknowns + 2)))
    return System((("f", many),), tuple(rules))


def countdown(draw):
    """A function whose parameters are from 0 on: rules that lower one of them, perhaps in two calls, and one that ends."""
    many = draw.randint(1, 2)
    rules = []
    for place in range(many):
        step = draw.randint(1, 3)
        lower = tuple(-step if at == 0 else int(at == place + 1) for at in range(many + 1))
        told = tuple(lower if at == place else tuple(int(spot == at + 1) for spot in range(many + 1)) for at in range(many))
        calls = ((0, told),)
        if draw.random() < 0.4:
            calls = ((1, ()), (0, tuple(row + (0,) for row in told)))
        rules.append((0, 0, (lower,), draw.randint(0, 3), calls, (0,) * (many + len(calls) + 1)))
    rules.append((0, 0, (), draw.randint(0, 2), (), (0,) * (many + 1)))
    rules.append((1, 0, (), draw.randint(0, 1), (), (0,)))
    start = tuple(tuple(int(spot == at + 1) for spot in range(many + 1)) for at in range(many))
    return System((("f", many), ("g", 0)), tuple(rules), start)


def ring(draw, drift=True):
    """A ring of rules with steps that come back, but for a drift: (functions, rules, vectors, drift)."""
    length = draw.randint(1, 3)
    functions = tuple((name, draw.randint(0, 3)) for name in draw.sample(NAMES, length))
    values = [tuple(draw.randint(-3, 3) for _ in range(many)) for _, many in functions]
    unknowns = [tuple(draw.randint(-3, 3) for _ in range(draw.randint(0, 2))) for _ in functions]
    weight = draw.choice([1, 1, 2, 3])
    far = tuple(draw.randint(-1, 1) * drift for _ in values[0])
    way = (0, *far, *[draw.randint(-1, 1) * drift for _ in unknowns[0]])
    rules, vectors = [], []
    for index in range(length):
        known = values[index] + unknowns[index]
        vector = (weight, *[weight * number for number in known])
        goal = values[(index + 1) % length]
        if index == length - 1:
            goal = tuple(a + b for a, b in zip(goal, far))
        many = len(known)
        rows = tuple(holds(draw, many, vector, *([way] if index == 0 else [])) for _ in range(draw.randint(0, 4)))
        told = through(draw, known, goal)
        rules.append((index, len(unknowns[index]), rows, 1, (((index + 1) % length, told),), (0,) * (many + 2)))
        vectors.append(vector)
    # What comes back to the beginning is the drift, times the weight of the steps.
    return functions, tuple(rules), vectors, tuple(weight * number for number in way)


def balance(draw):
    """(system, keep, lot, edge, balance): a ring that can be gone round, one edge beside it."""
    functions, rules, vectors, way = ring(draw)
    beside = (0, 0, (form(draw, functions[0][1], 2),), 1, ((0, tuple(form(draw, functions[0][1], 2) for _ in range(functions[0][1]))),), (0,) * (functions[0][1] + 2))
    system = System(functions, (*rules, beside))
    lot = tuple((index, 0) for index in range(len(rules) + 1))
    keep = (tuple(() for _ in functions), tuple(() for _ in functions))
    return system, keep, lot, (0, 0), (tuple((vector, vector) for vector in vectors) + (None,), way)


def bill(draw):
    """(system, keep, bill): each rule is paid by forms that were drawn."""
    functions = tuple((name, draw.randint(0, 2)) for name in draw.sample(NAMES, draw.randint(1, 3)))
    entries, forms, parts = [], [], []
    for _, many in functions:
        rows = tuple(form(draw, many, 2) for _ in range(draw.randint(1, 2)))
        numbers = [draw.randint(0, 2) for _ in rows]
        further = draw.randint(0, 3)
        entries.append(rows)
        forms.append(total(many, [(further, (1,) + (0,) * many), *zip(numbers, rows)]))
        parts.append((1, further, *numbers))
    scale = draw.randint(1, 3)
    rules, dues = [], []
    for _ in range(draw.randint(1, 3)):
        function = draw.randrange(len(functions))
        many = functions[function][1] + 1
        cost = draw.randint(0, 3)
        calls = []
        for number in range(draw.randint(0, 2)):
            callee = draw.randrange(len(functions))
            calls.append((callee, tuple(form(draw, many, 2) + (0,) * number for _ in range(functions[callee][1]))))
        left = [(1, forms[function] + (0,)), (-scale * cost, (1,) + (0,) * many)]
        for callee, told in calls:
            left.append((-1, put(forms[callee], told, many)))
        # What is left over behind the last call, and the entry rows of the second callee at its arguments.
        rows = [total(many, left)]
        if len(calls) == 2:
            rows.extend(put(row, calls[1][1], many) for row in entries[calls[1][0]])
        ahead = [0] * len(entries[function])
        if len(calls) == 2:
            told = parts[calls[1][0]]
            dues.append((1, told[1], *ahead, 1, *told[2:]))
        dues.append((1, 0, *ahead, 1, *[0] * (len(rows) - 1)))
        rules.append((function, 1, tuple(rows), cost, tuple(calls), (0,) * (many + len(calls) + 1)))
    system = System(functions, tuple(rules))
    return system, (tuple(entries), tuple(() for _ in functions)), ("bill", scale, tuple(forms), tuple(parts), tuple(dues))


def put(row, told, many):
    """A form with forms put in, further unknowns being left out."""
    return tuple(row[0] * (place == 0) + sum(number * inner[place] for number, inner in zip(row[1:], told)) for place in range(many + 1))


def crop(draw):
    """(system, keep, crop): a ring that costs something, which leaves over what it brings beside."""
    functions, rules, vectors, _ = ring(draw, drift=False)
    made, flows, own = [], [], [None] * (len(functions) + 1)
    spare = (draw.randint(-3, 3),)
    entries = [tuple(holds(draw, functions[index][1], vector[:functions[index][1] + 1]) for _ in range(draw.randint(0, 2)))
               for index, vector in enumerate(vectors)]
    entries.append((holds(draw, 1, (1, *spare)),))
    for (index, unknowns, guard, _, calls, result), vector in zip(rules, vectors):
        cost = draw.randint(0, 2) if index else draw.randint(1, 2)
        if draw.random() < 0.5:
            known = tuple(number // vector[0] for number in vector[1:])
            # The result of the first call stands for nothing here.
            calls = (*calls, (len(functions), tuple(told + (0,) for told in through(draw, known, spare))))
            flows.append(None)
            vector = (*vector, 5)
            carried = (vector[0], vector[0] * spare[0])
            own[-1] = carried if own[-1] is None else tuple(a + b for a, b in zip(own[-1], carried))
            result = result + (0,)
        flows.append((vector, vector))
        made.append((index, unknowns, guard, cost, calls, result))
    system = System((*functions, ("spare", 1)), tuple(made))
    own = tuple(None if vector is None else (vector, vector) for vector in own)
    return system, (tuple(entries), ((),) * len(system.functions)), ("crop", tuple(flows), own)
