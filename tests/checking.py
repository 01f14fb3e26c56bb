"""Claims and papers, read once more by the words of the document; and true claims of drawn systems, with papers."""
from math import gcd

from fallorflow.bills.bills import billed
from fallorflow.bills.least import least_bill, shared
from fallorflow.bounds.bounds import bound, sizing
from fallorflow.bounds.polys import poly_at
from fallorflow.errors import TooMany
from fallorflow.ever.counters import are_counters, turns_or_shelves
from fallorflow.exact.costs import exact_cost
from fallorflow.fall.ranks import rank_or_balance
from fallorflow.fall.trees import tree_or_stay
from fallorflow.hold.closed import edge_opens, open_edges, rule_opens
from fallorflow.hold.keeps import events, greatest, usual
from fallorflow.lots.rows import follows, point_or_bar
from fallorflow.rules.machine import each_run, run
from fallorflow.rules.system import System, edges
from tests import bounding, holding, judging, papers
from tests.draws import form, forms
from tests.judging import at
from tests.papers import Prices, need
from tests.test_costs import is_own_round
from tests.test_counters import is_own_tree, is_own_turns
from tests.test_rings import is_own_ever

TABLE = """
point bar: many rows
follows escapes: many rows form
holds breaks: system side function row
never-chosen chosen: system rule
falls balanced: system keep edges edge
taken-out stays: system keep edges
billed cropped: system keep
shared split: system keep edges
least: system keep function values fraction
counters-end counters-go-on: system
ends for-ever: system
at-most more: system inputs number
within beyond: system poly
"""
MEMBERS, OTHERS = {}, {}
for line in TABLE.strip().split("\n"):
    words, parts = line.split(": ")
    pair = [word.replace("-", " ") for word in words.split()]
    for kind in pair:
        MEMBERS[kind] = parts.split()
        OTHERS[kind] = next((other for other in pair if other != kind), None)
SHORT = 10 ** 60


def is_row(many, value):
    return type(value) is tuple and len(value) == many and all(type(part) is int and abs(part) < SHORT for part in value)


def is_number(value, low=None, high=None):
    return type(value) is int and (low is None or value >= low) and (high is None or value <= high)


def are_rows(many, most, value):
    return type(value) is tuple and len(value) <= most and all(is_row(many + 1, part) for part in value)


def is_keep(system, value, is_any=False):
    if type(value) is not tuple or len(value) != 2:
        return False
    for further, lots in enumerate(value):
        if type(lots) is not tuple or len(lots) != len(system.functions):
            return False
        for (_, many), lot in zip(system.functions, lots):
            if type(lot) is not tuple or len(lot) > 12:
                return False
            for row in lot:
                if type(row) is not tuple or len(row) != many + 1 + further or any(type(part) is not int for part in row):
                    return False
                if not is_any and not is_row(len(row), row):
                    return False
    return True


def are_edges(system, value):
    if type(value) is not tuple or any(type(edge) is not tuple or len(edge) != 2 or any(type(part) is not int for part in edge) for edge in value):
        return False
    return all(edge in holding.edges(system) for edge in value) and list(value) == sorted(set(value))


def is_member(name, value, told):
    """Whether a member is as its name says, those ahead of it being told."""
    system = told.get("system")
    if name == "many":
        return is_number(value, 0, 14)
    if name == "rows":
        return are_rows(told["many"], 40, value)
    if name == "form":
        return is_row(told["many"] + 1, value)
    if name == "system":
        return isinstance(value, System)
    if name == "side":
        return is_number(value, 0, 1)
    if name == "function":
        return is_number(value, 0, len(system.functions) - 1)
    if name == "row":
        return is_row(system.functions[told["function"]][1] + 1 + told["side"], value)
    if name == "rule":
        return is_number(value, 0, len(system.rules) - 1)
    if name == "keep":
        return is_keep(system, value)
    if name == "edges":
        return are_edges(system, value)
    if name == "edge":
        return are_edges(system, (value,)) and value in told["edges"]
    if name == "values":
        function = told["function"]
        return is_row(system.functions[function][1], value) and all(at(row, [1, *value]) >= 0 for row in told["keep"][0][function])
    if name == "fraction":
        return type(value) is tuple and len(value) == 2 and is_number(value[0]) and is_number(value[1], 1) and gcd(*value) == 1
    if name == "inputs":
        return is_row(system.functions[0][1], value) and all(at(row, [1, *value]) >= 0 for row in system.start_rows)
    if name == "number":
        return is_number(value, 0)
    return is_poly(system.functions[0][1], value)


def is_poly(many, value):
    if type(value) is not dict or len(value) > 300:
        return False
    return all(type(key) is tuple and len(key) == many and all(is_number(part, 0, 40) for part in key) and is_number(number, 1) for key, number in value.items())


def is_claim(value):
    if type(value) is not tuple or not value or type(value[0]) is not str or value[0] not in MEMBERS:
        return False
    names = MEMBERS[value[0]]
    if len(value) != len(names) + 1:
        return False
    told = {}
    for name, member in zip(names, value[1:]):
        if not is_member(name, member, told):
            return False
        told[name] = member
    return not value[0].startswith("counters") or are_counters(value[1])


# Papers.

def look_at_bar(many, rows, value):
    papers.row(len(rows), value, 0)
    found = judging.total(rows, value, many)
    need(found[0] <= -1 and not any(found[1:]))


def look_at_held(system, keep, sums):
    need(is_keep(system, keep, True))
    duties = holding.duties(system, keep)
    papers.tuples(len(duties), sums)
    for duty, told in zip(duties, sums):
        many, rows, form = holding.parts(system, keep, duty)
        papers.look_at_sum(rows, lambda values: at(form, [1, *values]), many, told)


def look_at_run(system, value):
    papers.tuples(2, value)
    inputs, choices = value
    need(is_member("inputs", inputs, {"system": system}))
    need(type(choices) is tuple and len(choices) <= 2000)
    for choice in choices:
        need(type(choice) is tuple and len(choice) == 2 and is_number(choice[0], 0, len(system.rules) - 1))
        need(is_row(system.rules[choice[0]][1], choice[1]))
    try:
        return run(system, inputs, choices)
    except ArithmeticError:
        raise papers.Wrong from None


def rows_of(system, keep, rule, number):
    function, unknowns = system.rules[rule][:2]
    many = system.functions[function][1] + unknowns + number
    return many, holding.forms_of(many, lambda values: holding.told(system, keep, rule, number, values))


def reach(system, lot):
    found = {0}
    for _ in system.functions:
        found |= {papers.goal(system, edge) for edge in lot if papers.source(system, edge) in found}
    return found


def look_at_net(system, keep, sums, lot, bars):
    look_at_held(system, keep, sums)
    need(are_edges(system, lot))
    others = [edge for edge in holding.edges(system) if edge not in lot]
    papers.tuples(len(others), bars)
    for edge, bar in zip(others, bars):
        if bar is None:
            need(papers.source(system, edge) not in reach(system, lot))
        else:
            look_at_bar(*rows_of(system, keep, *edge), bar)


def cost_of(system, keep, tree, sizes):
    papers.look_at_tree(system, keep, tuple(holding.edges(system)), tree)
    need(bounding.is_sizing(system, keep, sizes))
    rule = bounding.Rule(system, tree, sizes)
    need(("cost",) not in rule.refused())
    met, ahead = {("cost",)}, [("cost",)]
    while ahead:
        further = set(rule.hangs(ahead.pop())) - met
        met |= further
        ahead.extend(further)
    need(all(is_poly(rule.many, rule.poly(item)) for item in met))
    return rule.poly(("cost",))


def look_at_paper(claim, value):
    word, *members = claim
    told = dict(zip(MEMBERS[word], members))
    system, keep = told.get("system"), told.get("keep")
    if word in ("point", "escapes"):
        papers.look_at_vector(told["many"], told["rows"], value, 1)
        need(word == "point" or at(told["form"], value) < 0)
    elif word == "bar":
        look_at_bar(told["many"], told["rows"], value)
    elif word == "follows":
        papers.look_at_sum(told["rows"], lambda values: at(told["form"], [1, *values]), told["many"], value)
    elif word == "holds":
        papers.tuples(2, value)
        look_at_held(system, *value)
        need(told["row"] in value[0][told["side"]][told["function"]])
    elif word in ("breaks", "chosen", "beyond", "more"):
        standing = look_at_run(system, value if word != "more" else (told["inputs"], value))
        if word == "breaks":
            name = ["enter", "leave"][told["side"]]
            ends = [event for event in events(system, *value) if event[0] == name and event[1] == told["function"]]
            need(any(at(told["row"], [1, *event[2], *event[3:]]) < 0 for event in ends))
        elif word == "chosen":
            need(told["rule"] in [choice[0] for choice in value[1]])
        elif word == "more":
            need(standing.cost > told["number"])
        else:
            need(standing.cost > poly_at(len(value[0]), told["poly"], tuple(map(abs, value[0]))))
    elif word == "never chosen":
        papers.tuples(5, value)
        look_at_net(system, *value[:4])
        if value[4] is None:
            need(system.rules[told["rule"]][0] not in reach(system, value[2]))
        else:
            look_at_bar(*rows_of(system, value[0], told["rule"], 0), value[4])
    elif word in ("falls", "balanced"):
        look = papers.look_at_rank if word == "falls" else papers.look_at_balance
        look(system, keep, told["edges"], told["edge"], value)
    elif word in ("taken out", "stays"):
        look = papers.look_at_tree if word == "taken out" else papers.look_at_stay
        look(system, keep, told["edges"], value)
    elif word in ("billed", "shared"):
        papers.look_at_bill(Prices(system, told.get("edges")), keep, "bill" if word == "billed" else word, value)
    elif word in ("cropped", "split"):
        papers.look_at_crop(Prices(system, told.get("edges")), keep, "crop" if word == "cropped" else word, value)
    elif word == "least":
        papers.tuples(2, value)
        function, values, (top, bottom) = told["function"], told["values"], told["fraction"]
        papers.look_at_bill(Prices(system), keep, "bill", value[0])
        price = papers.look_at_mixture(Prices(system), keep, function, values, value[1])
        need(at(value[0][2][function], [1, *values]) * bottom == top * value[0][1] and price * bottom == top * value[1][0])
    elif word == "counters end":
        need(is_own_tree(system, value))
    elif word == "counters go on":
        need(is_own_turns(system, value))
    elif word == "ends":
        papers.tuples(5, value)
        look_at_net(system, *value[:4])
        papers.look_at_tree(system, value[0], value[2], value[4])
    elif word == "for ever":
        look_at_for_ever(system, value)
    else:
        look_at_price(word, told, value)


def look_at_for_ever(system, value):
    need(type(value) is tuple and value and type(value[0]) is str)
    if value[0] == "ring":
        need(len(value) == 2 and is_own_ever(system, value[1]))
        return
    need(value[0] == "round" and len(value) == 3 and is_member("inputs", value[1], {"system": system}))
    for function, unknowns, _, _, calls, _ in system.rules:
        need(not any(any(row[system.functions[function][1] + unknowns + 1:]) for _, told in calls for row in told))
    need(is_own_round(system, value[1], None, value[2]))


def look_at_price(word, told, value):
    system = told["system"]
    if word == "within":
        papers.tuples(4, value)
        look_at_held(system, *value[:2])
        poly = cost_of(system, value[0], *value[2:])
        need(all(told["poly"].get(key, 0) >= number for key, number in poly.items()))
        return
    need(type(value) is tuple and len(value) > 3 and type(value[0]) is str)
    look_at_held(system, *value[1:3])
    if value[0] == "bill":
        papers.tuples(4, value)
        papers.look_at_bill(Prices(system), value[1], "bill", value[3])
        need(at(value[3][2][0], [1, *told["inputs"]]) < (told["number"] + 1) * value[3][1])
    else:
        need(value[0] == "bound" and len(value) == 5)
        poly = cost_of(system, value[1], *value[3:])
        need(poly_at(len(told["inputs"]), poly, tuple(map(abs, told["inputs"]))) <= told["number"])


is_paper = papers.judged(look_at_paper)


# True claims.

def tried(call, *args):
    """What is told, None for too much."""
    try:
        return call(*args)
    except TooMany:
        return None


def plain_claims(draw):
    """Claims of rows and forms alone."""
    many = draw.randint(0, 4)
    rows, told = forms(draw, many, draw.randint(0, 5), 3), form(draw, many, 3)
    word, paper = point_or_bar(many, rows)
    yield (word, many, rows), paper
    word, paper = follows(many, rows, told)
    yield (word, many, rows, told), paper


def net_of(system, keep, sums):
    """The members of a net: the edges that are not closed, of functions that are met."""
    lot = open_edges(system, keep)
    bars = []
    for edge in edges(system):
        if edge not in lot:
            word, bar = edge_opens(system, keep, edge)
            bars.append(bar if word == "closed" else None)
    return keep, sums, lot, tuple(bars)


def held(system, candidates=None):
    keep, (sums, _) = greatest(system, usual(system) if candidates is None else candidates)
    return keep, sums


def some_inputs(draw, system):
    for _ in range(20):
        found = tuple(draw.randint(-2, 5) for _ in range(system.functions[0][1]))
        if all(at(row, [1, *found]) >= 0 for row in system.start_rows):
            return found
    return None


def some_runs(draw, system, many=3):
    inputs = some_inputs(draw, system)
    if inputs is None:
        return []
    found = []
    for choices in each_run(system, inputs, 1, 4):
        found.append((inputs, choices[:draw.randint(0, len(choices))]))
        if len(found) > 30:
            break
    return draw.sample(found, min(many, len(found)))


def claims(draw, system):
    """Pairs of true claims of all kinds about a system, and papers, as far as they are found."""
    keep, sums = held(system)
    lot = edges(system)
    yield from keep_claims(draw, system, keep, sums)
    yield from lot_claims(draw, system, keep, lot)
    yield from run_claims(draw, system)
    yield from cost_claims(draw, system, keep, sums)
    if are_counters(system):
        found = tried(turns_or_shelves, system)
        if found is not None:
            yield ("counters go on" if found[0] == "turns" else "counters end", system), found[1]


def keep_claims(draw, system, keep, sums):
    for side in (0, 1):
        for function, rows in enumerate(keep[side]):
            if rows:
                yield ("holds", system, side, function, draw.choice(rows)), (keep, sums)
    met = reach(system, open_edges(system, keep))
    if holding.edges(system) and not open_edges(system, keep) and edge_opens(system, keep, edges(system)[0])[0] == "open":
        return
    net = net_of(system, keep, sums)
    if any(bar is None and papers.source(system, edge) in met for edge, bar in zip([edge for edge in edges(system) if edge not in net[2]], net[3])):
        return
    for rule, told in enumerate(system.rules):
        word, bar = rule_opens(system, keep, rule)
        if word == "closed" or told[0] not in met:
            yield ("never chosen", system, rule), (*net, bar if word == "closed" else None)
    found = tried(tree_or_stay, system, keep, net[2])
    if found is not None and found[0] == "tree":
        yield ("ends", system), (*net, found[1])


def lot_claims(draw, system, keep, lot):
    found = tried(tree_or_stay, system, keep, lot)
    if found is not None:
        yield ("taken out" if found[0] == "tree" else "stays", system, keep, lot), found[1]
    if lot:
        edge = draw.choice(lot)
        found = tried(rank_or_balance, system, keep, lot, edge)
        if found is not None:
            yield ("falls" if found[0] == "rank" else "balanced", system, keep, lot, edge), found[1]
    found = tried(shared, system, keep, lot)
    if found is not None:
        yield (found[0], system, keep, lot), found
    found = tried(billed, system, keep)
    if found is not None:
        yield ("billed" if found[0] == "bill" else "cropped", system, keep), found
    function = draw.randrange(len(system.functions))
    values = tuple(draw.randint(0, 5) for _ in range(system.functions[function][1]))
    if all(at(row, [1, *values]) >= 0 for row in keep[0][function]):
        found = tried(least_bill, system, keep, function, values)
        if found is not None and found[0] == "least":
            yield ("least", system, keep, function, values, found[1]), found[2:]


def run_claims(draw, system):
    for inputs, choices in some_runs(draw, system):
        standing = run(system, inputs, choices)
        if choices:
            yield ("chosen", system, draw.choice(choices)[0]), (inputs, choices)
        if standing.cost:
            yield ("more", system, inputs, draw.randint(0, standing.cost - 1)), choices
            yield ("beyond", system, {(0,) * len(inputs): standing.cost - 1} if standing.cost > 1 else {}), (inputs, choices)
        event = draw.choice(events(system, inputs, choices))
        side = int(event[0] == "leave")
        row = form(draw, len(event[2]) + side, 3)
        low = at(row, [1, *event[2], *event[3:]])
        yield ("breaks", system, side, event[1], (row[0] - max(low, 0) - 1, *row[1:])), (inputs, choices)
        found = None
        try:
            found = exact_cost(system, inputs, draw.randint(0, 1))
        except (ArithmeticError, OverflowError):
            pass
        if found is not None and found[0] == "round":
            yield ("for ever", system), ("round", inputs, found[1:])


def cost_claims(draw, system, keep, sums):
    inputs = some_inputs(draw, system)
    if inputs is None:
        return
    found = tried(least_bill, system, keep, 0, inputs)
    if found is not None and found[0] == "least":
        yield ("at most", system, inputs, found[1][0] // found[1][1] + draw.choice([0, 0, 3])), ("bill", keep, sums, found[2])
    found = tried(tree_or_stay, system, keep, edges(system))
    if found is None or found[0] == "stay":
        return
    tree, sizes = found[1], sizing(system, keep)
    found = tried(bound, system, keep, tree, sizes, ("cost",))
    if found is not None and found[0] == "within":
        poly = found[1]
        yield ("within", system, poly), (keep, sums, tree, sizes)
        number = poly_at(len(inputs), poly, tuple(map(abs, inputs)))
        yield ("at most", system, inputs, number), ("bound", keep, sums, tree, sizes)
