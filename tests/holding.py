"""Duties and their rows and forms once more: told by what they come to at values."""
from tests.judging import at


def edges(system):
    return [(index, number) for index, rule in enumerate(system.rules) for number in range(len(rule[4]))]


def called(system, rule, number, values):
    """The arguments of a call at the values ahead of it."""
    return [at(form, [1, *values]) for form in system.rules[rule][4][number][1]]


def told(system, keep, rule, number, values):
    """What the rows ahead of a call come to, in sequence."""
    function, unknowns, guard, _, calls, _ = system.rules[rule]
    many = system.functions[function][1]
    found = [at(row, [1, *values[:many]]) for row in keep[0][function]]
    found.extend(at(row, [1, *values[:many + unknowns]]) for row in guard)
    for place in range(number):
        known = many + unknowns + place
        inner = called(system, rule, place, values[:known])
        found.extend(at(row, [1, *inner, values[known]]) for row in keep[1][calls[place][0]])
    return found


def duties(system, keep):
    found = [("call", rule, number, at) for rule, number in edges(system)
             for at in range(len(keep[0][system.rules[rule][4][number][0]]))]
    found += [("end", index, at) for index, rule in enumerate(system.rules) for at in range(len(keep[1][rule[0]]))]
    return sorted(found + [("start", at) for at in range(len(keep[0][0]))])


def forms_of(many, told_at):
    """Forms over so many unknowns, by the numbers that they come to at 0 and at the units."""
    first = told_at([0] * many)
    columns = [told_at([1 if place == at else 0 for place in range(many)]) for at in range(many)]
    return tuple(tuple([base, *[column[index] - base for column in columns]]) for index, base in enumerate(first))


def parts(system, keep, duty):
    """The triple (many, rows, form)."""
    word, *where = duty
    if word == "start":
        return system.functions[0][1], system.start_rows, keep[0][0][where[0]]
    function, unknowns, _, _, calls, result = system.rules[where[0]]
    number = where[1] if word == "call" else len(calls)
    many = system.functions[function][1] + unknowns + number
    rows = forms_of(many, lambda values: told(system, keep, where[0], number, values))
    if word == "call":
        row = keep[0][calls[number][0]][where[2]]
        form = forms_of(many, lambda values: [at(row, [1, *called(system, where[0], number, values)])])
    else:
        row = keep[1][function][where[1]]
        own = system.functions[function][1]
        form = forms_of(many, lambda values: [at(row, [1, *values[:own], at(result, [1, *values])])])
    return many, rows, form[0]


def edge_parts(system, keep, edge):
    """How many values there are ahead of an edge, its rows, and its arguments."""
    rule, number = edge
    function, unknowns, _, _, calls, _ = system.rules[rule]
    many = system.functions[function][1] + unknowns + number
    return many, forms_of(many, lambda values: told(system, keep, rule, number, values)), calls[number][1]
