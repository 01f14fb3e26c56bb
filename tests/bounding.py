"""The rule of bounds once more, by its words, pair by pair; and systems that end by how they are made."""
from fallorflow.rules.system import System
from tests import holding, papers
from tests.draws import NAMES
from tests.judging import at
from tests.papers import goal, source


def plus(*polys):
    total = {}
    for poly in polys:
        for key, number in poly.items():
            total[key] = total.get(key, 0) + number
    return total


def join(*polys):
    total = {}
    for poly in polys:
        for key, number in poly.items():
            total[key] = max(number, total.get(key, 0))
    return total


def product(one, other):
    total = {}
    for mine, number in one.items():
        for yours, times in other.items():
            key = tuple(a + b for a, b in zip(mine, yours))
            total[key] = total.get(key, 0) + number * times
    return total


def times(number, poly):
    return {key: number * size for key, size in poly.items() if number}


class Rule:
    """What the rule reckons of a system, a tree and a sizing."""

    def __init__(self, system, tree, sizes):
        self.system = system
        self.many = system.functions[0][1]
        self.edges = holding.edges(system)
        self.tree = tree
        self.entries = dict(zip(self.edges, sizes))
        self.rings = [set(branch[0]) for branch in tree]
        self.pairs = [(edge, at) for edge in self.edges for at in range(len(system.rules[edge[0]][4][edge[1]][1]))]
        self.loops = self.find_loops()
        self.memo = {}

    def function(self, edge):
        return source(self.system, edge)

    def to(self, edge):
        return 0 if edge == "start" else goal(self.system, edge)

    def ring_of(self, edge):
        for ring in self.rings:
            if edge in ring:
                return ring
        return None

    def ring_at(self, function):
        for ring in self.rings:
            if any(self.to(edge) == function for edge in ring):
                return ring
        return None

    def c(self, pair):
        """The told size of an argument, None for "outside"."""
        edge, at = pair
        entry = self.entries[edge][at]
        if entry[0] == "outside":
            return None
        many = self.system.functions[self.function(edge)][1]
        row = self.system.rules[edge[0]][4][edge[1]][1][at][:many + 1] if entry[0] == "plain" else entry[1]
        found = [abs(number) for number in row]
        if entry[0] == "led" and row[0] < 0:
            found[0] = 0
        return found

    def leading(self, function):
        """The edges, and perhaps the start, that lead to a function."""
        return [edge for edge in self.edges if self.to(edge) == function] + (["start"] if function == 0 else [])

    def feeds(self, one, other):
        told = self.c(other)
        return told is not None and self.to(one[0]) == self.function(other[0]) and told[one[1] + 1] > 0

    def find_loops(self):
        """The sets of pairs of ring edges that feed one another round."""
        pairs = [pair for pair in self.pairs if self.ring_of(pair[0]) is not None]
        reach = {one: {other for other in pairs if self.feeds(one, other)} for one in pairs}
        for middle in pairs:
            for one in pairs:
                if middle in reach[one]:
                    reach[one] |= reach[middle]
        found = []
        for one in pairs:
            if one in reach[one] and not any(one in loop for loop in found):
                found.append({other for other in reach[one] if one in reach[other]})
        return found

    def loop_of(self, pair):
        for loop in self.loops:
            if pair in loop:
                return loop
        return None

    def fed(self, loop, pair):
        """The parameters by which the loop feeds a pair."""
        many = self.system.functions[self.function(pair[0])][1]
        return [i for i in range(many) if any(other[1] == i and self.feeds(other, pair) for other in loop)]

    def others(self, loop, pair):
        """What is left of a told size for the rest: c0, and the other ci."""
        told = self.c(pair)
        fed = self.fed(loop, pair)
        return told[0], [0 if i in fed else number for i, number in enumerate(told[1:])]

    def grows(self, loop):
        return any(sum(self.c(pair)[i + 1] for i in self.fed(loop, pair)) > 1 for pair in loop)

    def counted(self, loop):
        """The edges of a loop that are not left out."""
        found = []
        for edge in sorted({edge for edge, _ in loop}):
            rests = [self.others(loop, pair) for pair in loop if pair[0] == edge]
            if any(first or any(more) for first, more in rests):
                found.append(edge)
        return found

    def outside_feeders(self, loop):
        found = set()
        for pair in loop:
            for i in self.fed(loop, pair):
                for edge in self.leading(self.function(pair[0])):
                    if (edge, i) not in loop:
                        found.add((edge, i))
        return found

    # What items hang on, and which are bad.

    def branch_of(self, edge):
        """The branch in which an edge has a rank, or is in no rank and no branch: (ring, K, ranks, others)."""
        ahead = [(ring, branch) for ring, branch in zip(self.rings, self.tree)]
        while ahead:
            ring, (edges, ranks, tree) = ahead.pop()
            taken = {other for part in tree for other in part[0]}
            ranked = dict(ranks)
            if edge in edges and edge not in taken:
                others = [other for other in edges if other not in taken and other not in ranked]
                return ring, set(edges), ranked, others
            ahead.extend((ring, part) for part in tree)
        return None

    def inlets(self, edge):
        """(outer, inner) inlets of the branch of a ring edge."""
        ring, edges, _, _ = self.branch_of(edge)
        functions = {self.to(other) for other in edges}
        leading = [d for f in sorted(functions) for d in self.leading(f) if d not in edges]
        return [d for d in leading if d == "start" or d not in ring], [d for d in leading if d in ring]

    def entering(self, ring):
        functions = {self.to(edge) for edge in ring}
        return [d for f in sorted(functions) for d in self.leading(f) if d not in ring]

    def ring_call(self, rule):
        ring = self.ring_at(self.system.rules[rule][0])
        for number in range(len(self.system.rules[rule][4])):
            if ring is not None and (rule, number) in ring:
                return (rule, number)
        return None

    def items(self):
        found = [("cost",)] + [("rule", r) for r in range(len(self.system.rules))] + [("calls", e) for e in self.edges]
        found += [("turns", e) for e in self.edges if self.ring_of(e) is not None]
        return found + [("size", *pair) for pair in self.pairs]

    def hangs(self, item):
        word = item[0]
        found = []
        if word == "cost":
            found = [("rule", r) for r, rule in enumerate(self.system.rules) if rule[3] > 0]
        elif word == "rule":
            function = self.system.rules[item[1]][0]
            ring = self.ring_at(function)
            if ring is None:
                found = [("calls", d) for d in self.leading(function)]
            elif self.ring_call(item[1]) is not None:
                found = [("calls", self.ring_call(item[1]))]
            else:
                found = [("calls", d) for d in self.entering(ring)]
        elif word == "calls":
            ring = self.ring_of(item[1])
            found = [("rule", item[1][0])] if ring is None else [("turns", item[1]), *[("calls", d) for d in self.entering(ring)]]
        elif word == "turns":
            _, _, ranks, _ = self.branch_of(item[1])
            outer, inner = self.inlets(item[1])
            found = [("turns", d) for d in inner]
            if item[1] in ranks:
                for d in outer + inner:
                    form = ranks[item[1]][0][self.to(d)]
                    found += [("size", d, i) for i, number in enumerate(form[1:]) if number]
            else:
                found += [("turns", s) for s in ranks]
        else:
            pair = item[1:]
            loop = self.loop_of(pair)
            if self.c(pair) is None:
                return []
            if loop is None:
                found = self.sizes_for(self.function(pair[0]), self.c(pair)[1:])
            else:
                found = [("size", *other) for other in self.outside_feeders(loop)]
                for edge in self.counted(loop):
                    found.append(("turns", edge))
                    for other in loop:
                        if other[0] == edge:
                            found += self.sizes_for(self.function(edge), self.others(loop, other)[1])
        return [other for other in found if "start" not in other]

    def sizes_for(self, function, numbers):
        return [("size", d, i) for i, number in enumerate(numbers) if number > 0 for d in self.leading(function)]

    def is_bad(self, item):
        if item[0] == "size":
            loop = self.loop_of(item[1:])
            return self.c(item[1:]) is None or (loop is not None and self.grows(loop))
        if item[0] in ("turns", "rule"):
            ring = self.ring_of(item[1]) if item[0] == "turns" else self.ring_at(self.system.rules[item[1]][0])
            return ring is not None and any((rule, 0) in ring and (rule, 1) in ring for rule in range(len(self.system.rules)))
        return False

    def refused(self):
        """The items that have a refusal: what comes to a bad item, or round."""
        items = self.items()
        reach = {item: set(self.hangs(item)) for item in items}
        changed = True
        while changed:
            changed = False
            for item in items:
                more = set().union(reach[item], *[reach[other] for other in reach[item]])
                changed = changed or more != reach[item]
                reach[item] = more
        ends = {item for item in items if self.is_bad(item) or item in reach[item]}
        return {item for item in items if item in ends or reach[item] & ends}

    # The polys.

    def poly(self, item):
        if item not in self.memo:
            self.memo[item] = getattr(self, item[0])(*item[1:])
        return self.memo[item]

    def constant(self, number):
        return {(0,) * self.many: number} if number else {}

    def unit(self, i):
        return {tuple(int(at == i) for at in range(self.many)): 1}

    def s(self, d, i):
        return self.unit(i) if d == "start" else self.poly(("size", d, i))

    def t(self, d):
        return self.constant(1) if d == "start" else self.poly(("calls", d))

    def i(self, function, at):
        return join(*[self.s(d, at) for d in self.leading(function)])

    def size(self, edge, at):
        pair = (edge, at)
        loop = self.loop_of(pair)
        function = self.function(edge)
        if loop is None:
            told = self.c(pair)
            return plus(self.constant(told[0]), *[times(number, self.i(function, i)) for i, number in enumerate(told[1:]) if number])
        found = join(*[self.s(d, i) for d, i in self.outside_feeders(loop)])
        for other in self.counted(loop):
            rests = []
            for mine in loop:
                if mine[0] == other:
                    first, more = self.others(loop, mine)
                    at_calls = [times(number, self.i(self.function(other), i)) for i, number in enumerate(more) if number]
                    rests.append(plus(self.constant(first), *at_calls))
            found = plus(found, product(self.poly(("turns", other)), join(*rests)))
        return found

    def form_size(self, form, d):
        return plus(self.constant(max(0, 1 + form[0])), *[times(abs(number), self.s(d, i)) for i, number in enumerate(form[1:]) if number])

    def turns(self, edge):
        _, _, ranks, _ = self.branch_of(edge)
        outer, inner = self.inlets(edge)
        if edge in ranks:
            forms = ranks[edge][0]
            more = [product(self.poly(("turns", d)), self.form_size(forms[self.to(d)], d)) for d in inner]
            return plus(join(*[self.form_size(forms[self.to(d)], d) for d in outer]), *more)
        more = [self.poly(("turns", d)) for d in [*inner, *ranks]]
        return plus(self.constant(1 if outer else 0), *more)

    def entered(self, ring):
        return plus(*[self.t(d) for d in self.entering(ring)])

    def calls(self, edge):
        ring = self.ring_of(edge)
        return self.poly(("rule", edge[0])) if ring is None else product(self.entered(ring), self.poly(("turns", edge)))

    def rule(self, index):
        function = self.system.rules[index][0]
        ring = self.ring_at(function)
        if ring is None:
            return plus(*[self.t(d) for d in self.leading(function)])
        edge = self.ring_call(index)
        if edge is None:
            return self.entered(ring)
        return plus(self.t(edge), self.constant(0 if edge == (index, 0) else 1))

    def cost(self):
        return plus(*[times(rule[3], self.poly(("rule", r))) for r, rule in enumerate(self.system.rules) if rule[3]])


# Sizings.

def is_entry(made, keep, edge, j, value):
    """What the document says of an entry, added up once more."""
    many, rows, forms = holding.edge_parts(made, keep, edge)
    own = made.functions[source(made, edge)][1]
    argument = forms[j] + (0,) * (many + 1 - len(forms[j]))
    if type(value) is not tuple or not value or type(value[0]) is not str:
        return False
    if len(value) == 1:
        return value[0] == "outside" or (value[0] == "plain" and not any(argument[own + 1:]))
    if value[0] != "led" or len(value) != 4:
        return False
    try:
        papers.row(own + 1, value[1])
        for side, shown in ((-1, value[2]), (1, value[3])):
            papers.look_at_sum(rows, lambda values: at(value[1], [1, *values[:own]]) + side * at(argument, [1, *values]), many, shown)
    except papers.Wrong:
        return False
    return True


def is_sizing(made, keep, value):
    if type(value) is not tuple or len(value) != len(holding.edges(made)):
        return False
    for edge, told in zip(holding.edges(made), value):
        if type(told) is not tuple or len(told) != made.functions[goal(made, edge)][1]:
            return False
        if not all(is_entry(made, keep, edge, j, entry) for j, entry in enumerate(told)):
            return False
    return True


# A number for all.

class Above(Exception):
    """Too many rounds, or too great a number."""


class Length:
    def __init__(self, system, tree, sizes):
        self.rule = Rule(system, tree, sizes)
        self.told = [self.rule.c(pair) for pair in self.rule.pairs]
        self.done = 0

    def look(self, number):
        if number > 10 ** 60:
            raise Above

    def count(self):
        self.done += 1
        if self.done > 3000:
            raise Above

    def grow(self, m, n):
        while n > 0:
            more = max([m] + [told[0] + sum(told[1:]) * m for told in self.told])
            if more == m:
                return m
            m = more
            self.count()
            self.look(m)
            n -= 1
        return m

    def length(self, branches, n, falls, m):
        total, left = 0, falls + 1
        while left:
            left -= 1
            self.count()
            turn = 0
            while turn < len(branches):
                turn += 1
                m = self.grow(m, n + 1)
                for edges, ranks, tree in branches:
                    functions = {self.rule.to(edge) for edge in edges}
                    further = sum(max(max(0, 1 + forms[f][0]) + sum(map(abs, forms[f][1:])) * m for f in functions) for _, (forms, _) in ranks)
                    inner = len(edges) - len(ranks) - sum(len(part[0]) for part in tree)
                    found = self.length(tree, inner, further, m)
                    total += found
                    self.look(total)
                    m = self.grow(m, found)
            total += n + 1
            self.look(total)
            m = self.grow(m, n + 1)
        return total

    def answer(self, inputs):
        for pair in self.rule.pairs:
            if self.rule.c(pair) is None:
                return ("outside", *pair)
        leaving = [edge for edge in self.rule.edges if self.rule.ring_of(edge) is None]
        try:
            total = self.length(self.rule.tree, len(leaving), 0, max([abs(number) for number in inputs], default=0))
            if all(len(rule[4]) < 2 for rule in self.rule.system.rules):
                number = total + 1
            else:
                number = 2 ** (min(total, 1000) + 1) - 1
            self.look(number)
        except Above:
            return ("above",)
        return ("steps", number)


# Systems that end by how they are made.

def unit(at, many, first=0):
    return (first, *[int(place == at) for place in range(many)])


def argument(draw, many, known, level, j):
    """What a parameter behind the one that falls becomes: a number, a parameter, a sum, an unknown, a result."""
    kind = draw.choice(["number", "same", "same", "other", "more", "sum", "twice", "further"])
    if kind == "number":
        return (draw.randint(-2, 3),) + (0,) * known
    if kind == "same":
        return unit(j, known)
    if kind == "other":
        return unit(draw.randrange(many), known, draw.randint(-1, 1))
    if kind == "more":
        return unit(j, known, draw.randint(1, 3))
    if kind == "twice":
        return tuple(2 * number for number in unit(j, known))
    if kind == "sum":
        one, other = unit(draw.randrange(many), known), unit(draw.randrange(many), known)
        return tuple(a - b if draw.random() < 0.2 else a + b for a, b in zip(one, other))
    return unit(draw.randrange(many, known), known) if known > many else unit(j, known)


def falling(draw, most_functions=3, most_rules=6, forks=0.15, wild=0.3):
    """A system: edges that lead back let a parameter fall, those ahead of it stay; edges that lead on let all stay."""
    many = draw.randint(1, 3)
    count = draw.randint(1, most_functions)
    functions = tuple((name, many) for name in draw.sample(NAMES, count))
    rules = []
    for _ in range(draw.randint(1, most_rules)):
        function = draw.randrange(count)
        unknowns = draw.choice([0, 0, 0, 1, 2])
        known = many + unknowns
        guard = []
        for at in range(many, known):
            if draw.random() > wild:
                guard += [unit(at, known), tuple(a - b for a, b in zip(unit(draw.randrange(many), known, draw.randint(0, 2)), unit(at, known)))]
        calls = []
        how_many = draw.choice([0, 1, 1, 1, 2])
        for number in range(how_many):
            callee = draw.randrange(count)
            told = known + number
            if callee > function and draw.random() < 0.6:
                calls.append((callee, tuple(unit(at, told) for at in range(many))))
                continue
            level = draw.randrange(many)
            if draw.random() > forks and number == 1 and calls[0][0] <= function:
                callee = min(count - 1, function + 1)
            guard.append(unit(level, known, -draw.randint(1, 2)))
            lower = unit(level, told, -draw.randint(1, 1))
            ahead = [unit(at, told) for at in range(level)]
            calls.append((callee, (*ahead, lower, *[argument(draw, many, told, level, j) for j in range(level + 1, many)])))
        result = draw.choice([(0,) * (known + how_many + 1), unit(draw.randrange(many), known + how_many)])
        rules.append((function, unknowns, tuple(guard[:8]), draw.choice([0, 1, 1, 2]), tuple(calls), result))
    given = tuple(unit(at, many) for at in range(many)) if draw.random() < 0.8 else ()
    return System(functions, tuple(rules), given)
