"""Drawn systems and programs; the draw is told, so each run of the tests has the same."""
from fallorflow.rules.system import System
from fallorflow.texts.programs import is_program

NAMES = ["f", "g", "h", "half", "twice", "abcdefgh"]


def form(draw, many, size):
    return tuple(draw.choice([0, 0, 1, -1, draw.randint(-size, size)]) for _ in range(many + 1))


def forms(draw, many, count, size):
    return tuple(form(draw, many, size) for _ in range(count))


def rule(draw, functions, size=3):
    function = draw.randrange(len(functions))
    unknowns = draw.choice([0, 0, 1, 1, 2])
    values = functions[function][1] + unknowns
    calls = []
    for number in range(draw.choice([0, 0, 1, 1, 2])):
        callee = draw.randrange(len(functions))
        calls.append((callee, forms(draw, values + number, functions[callee][1], size)))
    guard = forms(draw, values, draw.choice([0, 1, 1, 2, 3]), size)
    return (function, unknowns, guard, draw.randint(0, 4), tuple(calls), form(draw, values + len(calls), size))


def system(draw, most_functions=3, most_rules=6):
    count = draw.randint(1, most_functions)
    functions = tuple((name, draw.randint(0, 3)) for name in draw.sample(NAMES, count))
    rules = tuple(rule(draw, functions) for _ in range(draw.randint(0, most_rules)))
    given = forms(draw, functions[0][1], draw.choice([0, 0, 1, 2]), 3)
    return System(functions, rules, given)


def keep(draw, made):
    entries = tuple(forms(draw, many, draw.randint(0, 3), 3) for _, many in made.functions)
    results = tuple(forms(draw, many + 1, draw.randint(0, 2), 3) for _, many in made.functions)
    return (entries, results)


def statement(draw, procedures, many, depth):
    words = ["set", "set", "pay", "any", "give", "call", "choose", "if", "if", "while"]
    word = draw.choice(words[:6] if depth > 3 else words)
    place = draw.randrange(many) if many else None
    if word in ("set", "any") and place is None:
        word = "pay"
    if word == "set":
        return (word, place, form(draw, many, 3))
    if word == "any":
        return (word, place, forms(draw, many, draw.choice([0, 1, 2]), 3))
    if word == "pay":
        return (word, draw.randint(0, 3))
    if word == "give":
        return (word, form(draw, many, 3))
    if word == "call":
        callee = draw.randrange(len(procedures))
        told = forms(draw, many, len(procedures[callee][1]), 3)
        return (word, callee, told, draw.choice([None, place]))
    bodies = {"choose": draw.randint(2, 4), "if": 2, "while": 1}[word]
    told = tuple(body(draw, procedures, many, depth + 1) for _ in range(bodies))
    if word == "choose":
        return (word, told)
    return (word, forms(draw, many, draw.randint(1, 3), 3), *told)


def body(draw, procedures, many, depth):
    return tuple(statement(draw, procedures, many, depth) for _ in range(draw.choice([0, 1, 1, 2, 3])))


def program(draw):
    """A drawn program, not too large."""
    while True:
        heads = []
        for name in draw.sample(["main", "p", "help", "zz"], draw.randint(1, 3)):
            count = draw.randint(0, 4)
            variables = draw.sample(["x", "y", "n", "k", "main"], count)
            cut = draw.randint(0, count)
            heads.append((name, tuple(variables[:cut]), tuple(variables[cut:])))
        procedures = tuple((*head, body(draw, heads, len(head[1] + head[2]), 1)) for head in heads)
        made = (procedures, forms(draw, len(heads[0][1]), draw.choice([0, 0, 1]), 3))
        if is_program(made):
            return made
