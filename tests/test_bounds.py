import random
import unittest

from fallorflow.bounds.bounds import bound, is_refusal, is_sizing, sizing, steps_at_most
from fallorflow.bounds.polys import is_poly, poly_at, poly_sum
from fallorflow.errors import InvalidForm, InvalidKeep, InvalidOperation, InvalidSystem, TooMany
from fallorflow.fall.trees import tree_or_stay
from fallorflow.hold.keeps import greatest, usual
from fallorflow.rules.machine import Standing
from fallorflow.rules.steps import fitting
from fallorflow.rules.system import System, edges, empty_keep
from tests import bounding, draws, hidden, holding, papers
from tests.bending import bent, longer
from tests.bounding import unit
from tests.judging import at
from tests.nested import Nest
from tests.values import Refusing, near_misses, strange

LONG = 10 ** 80
DOWN = System((("f", 1),), ((0, 0, ((-1, 1),), 1, ((0, ((-1, 1),)),), (0, 0, 0)),))
NONE = empty_keep(DOWN)
TREE = ((((0, 0),), (((0, 0), (((-1, 1),), ((1, 0, 0), (1, 0, 1)))),), ()),)
SIZES = ((("led", (0, 1), (1, 1, 0), (1, 1, 2)),),)
COST = ("cost",)


def line(form, guard=((0, 0, 1), (0, 1, -1)), many=1):
    """One function that calls itself with an unknown between 0 and its parameter."""
    return System((("f", many),), ((0, 1, guard, 1, ((0, (form,)),), (0,) * (many + 3)),))


class Bounds(Refusing, unittest.TestCase):
    def setUp(self):
        self.draw = random.Random(121)

    def some(self, *told):
        """A drawn system with a keep, a tree and a sizing."""
        while True:
            made = bounding.falling(self.draw, *told)
            keep = empty_keep(made) if self.draw.random() < 0.3 else greatest(made, usual(made))[0]
            try:
                word, tree = tree_or_stay(made, keep, edges(made))
            except TooMany:
                continue
            if word == "tree":
                return made, keep, tree, sizing(made, keep)


class SizingTest(Bounds):
    def entry(self, made, keep, value):
        self.is_just(True, is_sizing(made, keep, value), repr(value)[:200])
        return value[0][0]

    def test_kinds(self):
        none = empty_keep(DOWN)
        for form, word, told in [((3, 1, 0), "plain", None), ((0, 0, 0), "plain", None), ((0, 0, 1), "led", (0, 1)), ((2, 0, 1), "led", (2, 1)), ((0, 0, -1), "led", (0, 1)),
                                 ((0, 1, -1), "led", (0, 1)), ((-5, 0, 1), "led", None), ((0, 0, 2), "outside", None), ((0, 1, 1), "outside", None)]:
            made = line(form)
            found = self.entry(made, none, sizing(made, none))
            self.assertEqual(found[0], word, form)
            if told is not None:
                self.assertEqual(found[1], told, form)
        # A number leads it, a parameter or its opposite does, nothing does.
        for guard, word, told in [(((4, 0, -1), (4, 0, 1)), "led", (4, 0)), (((4, 0, -2), (5, 0, 2)), "led", (3, 0)), (((0, -1, -1), (0, -1, 1)), "led", (0, -1)),
                                  (((4, 0, -1),), "outside", None), (((0, 0, 1),), "outside", None), (((2, 1, -1), (0, 0, 1)), "led", (2, 1)),
                                  (((-7, 1, -1), (0, 0, 1)), "led", (-7, 1)), ((), "outside", None)]:
            made = line((0, 0, 1), guard)
            found = self.entry(made, none, sizing(made, none))
            self.assertEqual((found[0], found[1] if word == "led" else None), (word, told), guard)

    def test_closed_edges(self):
        made = line((0, 0, 5), ((-1, 0, 0),))
        entry = self.entry(made, NONE, sizing(made, NONE))
        self.assertEqual((entry[0], entry[2][0]), ("led", 0))
        # Any form is right where the rows hold at no point.
        self.is_just(True, is_sizing(made, NONE, ((("led", (-9, 4), (0, 1, 1), (0, 1, 1)),),)))

    def test_results(self):
        made = System((("f", 1), ("g", 0)), ((0, 0, ((-1, 1),), 1, ((1, ()), (0, ((0, 0, 1),))), (0,) * 4), (1, 0, (), 0, (), (3,))))
        keep = (((), ()), ((), ((3, -1), (-3, 1))))
        self.assertEqual(sizing(made, empty_keep(made)), ((), (("outside",),)))
        found = sizing(made, keep)
        self.assertEqual(found[1][0][:2], ("led", (3, 0)))
        self.is_just(True, is_sizing(made, keep, found))
        self.is_just(False, is_sizing(made, empty_keep(made), found))

    def test_drawn(self):
        words = {"plain": 0, "led": 0, "outside": 0}
        bends = [0, 0]
        for turn in range(150):
            if turn % 2:
                made = bounding.falling(self.draw)
                keep = greatest(made, usual(made))[0]
            else:
                made = draws.system(self.draw)
                keep = draws.keep(self.draw, made)
            found = sizing(made, keep)
            self.assertEqual(found, sizing(made, keep))
            self.is_just(True, bounding.is_sizing(made, keep, found))
            self.is_just(True, is_sizing(made, keep, found))
            self.is_just(True, is_sizing(made, keep, longer(found, 1)))
            for edge, told in zip(edges(made), found):
                for j, entry in enumerate(told):
                    words[entry[0]] += 1
                    if entry[0] == "outside":
                        self.look_at_outside(made, keep, edge, j)
            for value in bent(self.draw, found, 6):
                expected = bounding.is_sizing(made, keep, value)
                self.is_just(expected, is_sizing(made, keep, value), repr(value)[:300])
                bends[expected] += 1
        self.assertGreater(min(words.values()), 30)
        self.assertGreater(min(bends), 10)

    def look_at_outside(self, made, keep, edge, j):
        """No number, and no number more than a parameter or its opposite, is right: some points go beyond each."""
        many, rows, forms = holding.edge_parts(made, keep, edge)
        own = made.functions[papers.source(made, edge)][1]
        argument = forms[j] + (0,) * (many + 1 - len(forms[j]))
        self.assertTrue(any(argument[own + 1:]))
        from fallorflow.lots.rows import least
        for form in [(0,) * (own + 1), *[tuple(side * number for number in unit(i, own)) for i in range(own) for side in (1, -1)]]:
            over = form + (0,) * (many - own)
            told = [least(many, rows, tuple(a + side * b for a, b in zip(over, argument)))[0] for side in (-1, 1)]
            self.assertIn("falls", told)

    def test_long_ones(self):
        told = ("led", (LONG, 1), (1, LONG + 1, 0), (1, LONG + 1, 2))
        self.is_just(True, is_sizing(DOWN, NONE, ((told,),)))
        self.is_just(True, is_sizing(DOWN, NONE, ((("led", (0, 1), (LONG, LONG, 0), (LONG, LONG, 2 * LONG)),),)))
        self.is_just(False, is_sizing(DOWN, NONE, ((("led", (0, 1), (LONG, LONG + 1, 0), (LONG, LONG, 2 * LONG)),),)))
        self.assertEqual(bound(DOWN, NONE, TREE, ((told,),), ("size", (0, 0), 0)), ("within", {(1,): LONG + 1}))

    def test_other_values(self):
        for value in [*strange(), SIZES[0], [SIZES[0]], ((),), (((),),), ((("plain",),),) * 2, ((("plain", 1),),), ((("outside", ()),),), ((("led",),),), ((["plain"],),),
                      ((("led", (0, 1), (1, 1, 0)),),), (([("plain",)]),), ((None,),), (("plain",),), ((("Plain",),),)]:
            self.is_just(False, is_sizing(DOWN, NONE, value), repr(value)[:200])
        self.is_just(True, is_sizing(DOWN, NONE, ((("plain",),),)))
        self.is_just(True, is_sizing(DOWN, NONE, ((("outside",),),)))
        self.is_just(False, is_sizing(line((0, 0, 1)), NONE, ((("plain",),),)))

    def test_errors(self):
        for value in strange():
            for call, more in [(sizing, ()), (is_sizing, (SIZES,))]:
                if not isinstance(value, System):
                    self.refuses(InvalidSystem, call, value, None, *more)
                self.refuses(InvalidKeep, call, DOWN, value, *more)


class RuleTest(Bounds):
    def look_at_all(self, made, keep, tree, sizes, seen):
        rule = bounding.Rule(made, tree, sizes)
        refused = rule.refused()
        for item in rule.items():
            if item in refused:
                word, found = bound(made, keep, tree, sizes, item)
                self.assertEqual((word, found[0]), ("refused", item))
                self.is_just(True, is_refusal(made, keep, tree, sizes, item, found))
                self.look_at_refusals(rule, made, keep, tree, sizes, item, found)
            else:
                expected = rule.poly(item)
                if not is_poly(rule.many, expected):
                    self.refuses(TooMany, bound, made, keep, tree, sizes, item, keeps={"limit": 300})
                    continue
                self.assertEqual(bound(made, keep, tree, sizes, item), ("within", expected))
                self.assertEqual(list(bound(made, keep, tree, sizes, item)[1]), sorted(expected))
            seen[(item[0], item in refused)] = seen.get((item[0], item in refused), 0) + 1
        return rule

    def is_refused(self, rule, item, value):
        """Whether the value is a refusal, by its words."""
        items = rule.items()
        if type(value) is not tuple or not value or repr(value[0]) != repr(item) or any(repr(part) not in map(repr, items) for part in value):
            return False
        if any(value[k + 1] not in rule.hangs(value[k]) for k in range(len(value) - 1)):
            return False
        return rule.is_bad(value[-1]) or value[-1] in value[:-1]

    def look_at_refusals(self, rule, made, keep, tree, sizes, item, found):
        """Walks that go on, and values near a refusal."""
        walk = [item]
        for _ in range(self.draw.randint(0, 8)):
            further = rule.hangs(walk[-1])
            if not further:
                break
            walk.append(self.draw.choice(further))
        near = [tuple(walk), found[:-1], found + found[-1:], (*found[:-1], COST), found[::-1], list(found), found[1:], (*found, *found)]
        for value in near:
            self.is_just(self.is_refused(rule, item, value), is_refusal(made, keep, tree, sizes, item, value))

    def test_drawn(self):
        seen, lots = {}, {"loops": 0, "deep": 0, "ranks": 0, "others": 0, "growing": 0, "inner": 0, "outer": 0, "outside": 0, "free": 0, "none": 0, "first": 0, "second": 0, "both": 0,
                          "pairs": 0, "gone": 0}
        for turn in range(170):
            made, keep, tree, sizes = self.some(*[(), (4, 8, 0.05, 0.1), (2, 6, 0.4, 0.5)][turn % 3])
            rule = self.look_at_all(made, keep, tree, sizes, seen)
            lots["loops"] += sum(len(loop) > 1 for loop in rule.loops)
            self.look_at_kinds(made, rule, lots)
            ahead = list(tree)
            while ahead:
                branch = ahead.pop()
                ahead.extend(branch[2])
                lots["deep"] += bool(branch[2])
                lots["ranks"] += len(branch[1]) > 1
                lots["others"] += len(branch[0]) > len(branch[1]) + sum(len(part[0]) for part in branch[2])
        self.assertGreater(min(lots.values()), 8, lots)
        for word in ("cost", "rule", "calls", "turns", "size"):
            self.assertGreater(min(seen[word, True], seen[word, False]), 20, seen)

    def look_at_kinds(self, made, rule, lots):
        """How often each thing comes that the rule tells of."""
        ring_edges = [edge for edge in rule.edges if rule.ring_of(edge) is not None]
        lots["growing"] += any(rule.grows(loop) for loop in rule.loops)
        lots["inner"] += any(rule.inlets(edge)[1] for edge in ring_edges)
        lots["outer"] += any(rule.inlets(edge)[0] not in ([], ["start"]) for edge in ring_edges)
        lots["outside"] += bool(rule.rings) and rule.ring_at(0) is None
        lots["free"] += any(told[3] == 0 for told in made.rules)
        lots["pairs"] += any(rule.loop_of(pair) is None for pair in rule.pairs if pair[0] in ring_edges)
        lots["gone"] += any(rule.ring_at(function) is None for function in range(1, len(made.functions)))
        for index, told in enumerate(made.rules):
            if len(told[4]) == 2:
                here = tuple((index, number) in ring_edges for number in (0, 1))
                lots[{(False, False): "none", (True, False): "first", (False, True): "second", (True, True): "both"}[here]] += 1

    def test_other_sizings(self):
        # Other right entries: "outside", forms of other numbers, "led" in the place of "plain".
        seen = {}
        for _ in range(60):
            made, keep, tree, sizes = self.some(3, 5, 0.1, 0.2)
            changed = []
            for edge, told in zip(edges(made), sizes):
                entries = list(told)
                for j, entry in enumerate(told):
                    if self.draw.random() < 0.12:
                        entries[j] = ("outside",)
                    elif entry[0] == "led" and entry[2][0] == entry[3][0] == 1:
                        more = self.draw.randint(0, 2)
                        entries[j] = ("led", (entry[1][0] + more, *entry[1][1:]), (1, entry[2][1] + more, *entry[2][2:]), (1, entry[3][1] + more, *entry[3][2:]))
                changed.append(tuple(entries))
            self.is_just(True, is_sizing(made, keep, tuple(changed)))
            self.look_at_all(made, keep, tree, tuple(changed), seen)
        self.assertGreater(seen["size", True], 50)

    def test_by_hand(self):
        x, y = (1, 0), (0, 1)
        # y grows by 2 at each turn, of which there are x + 1: the rank is x.
        two = System((("f", 2),), ((0, 0, ((0, 1, 0),), 3, ((0, ((-1, 1, 0), (2, 0, 1))),), (0,) * 4),))
        none, lot = empty_keep(two), ((0, 0),)
        tree = ((lot, (((0, 0), (((0, 1, 0),), ((1, 0, 0), (1, 0, 1)))),), ()),)
        sizes = ((("plain",), ("plain",)),)
        for item, poly in [(("turns", (0, 0)), {(0, 0): 1, x: 1}), (("size", (0, 0), 0), {(0, 0): 1, (1, 0): 2}), (("size", (0, 0), 1), {(0, 0): 2, y: 1, x: 2}),
                           (("calls", (0, 0)), {(0, 0): 1, x: 1}), (("rule", 0), {(0, 0): 1, x: 1}), (COST, {(0, 0): 3, x: 3})]:
            self.assertEqual(bound(two, none, tree, sizes, item), ("within", poly))
        # y is doubled: a factor above 1; so are loops of two pairs that feed themselves by both.
        twice = System(two.functions, ((0, 0, ((0, 1, 0),), 3, ((0, ((-1, 1, 0), (0, 0, 2))),), (0,) * 4),))
        self.assertEqual(bound(twice, none, tree, sizes, ("size", (0, 0), 1)), ("refused", (("size", (0, 0), 1),)))
        self.assertEqual(bound(twice, none, tree, sizes, COST)[0], "within")
        # A rule of a ring with two calls along it.
        fork = System((("f", 1),), ((0, 0, ((0, 1),), 1, ((0, ((-1, 1),)), (0, ((-1, 1, 0),))), (0,) * 4), (0, 0, (), 2, (), (0, 0))))
        tree = tree_or_stay(fork, empty_keep(fork), edges(fork))[1]
        for item in [("rule", 0), ("rule", 1), ("turns", (0, 0)), ("turns", (0, 1))]:
            self.assertEqual(bound(fork, empty_keep(fork), tree, sizing(fork, empty_keep(fork)), item), ("refused", (item,)))
        found = bound(fork, empty_keep(fork), tree, sizing(fork, empty_keep(fork)), ("calls", (0, 1)))
        self.assertEqual(found, ("refused", (("calls", (0, 1)), ("turns", (0, 1)))))

    def test_second_calls(self):
        # A rule of a ring whose first call leaves: it comes once more than its ring edge.
        made = System((("f", 1), ("g", 0)), ((0, 0, ((0, 1),), 1, ((1, ()), (0, ((-1, 1, 0),))), (0,) * 4), (1, 0, (), 1, (), (0,))))
        keep = empty_keep(made)
        tree, sizes = tree_or_stay(made, keep, edges(made))[1], sizing(made, keep)
        turns = bound(made, keep, tree, sizes, ("turns", (0, 1)))[1]
        self.assertEqual(bound(made, keep, tree, sizes, ("rule", 0)), ("within", poly_sum(1, turns, {(0,): 1})))
        self.assertEqual(bound(made, keep, tree, sizes, ("calls", (0, 0))), ("within", poly_sum(1, turns, {(0,): 1})))
        self.assertEqual(bound(made, keep, tree, sizes, COST), ("within", poly_sum(1, poly_sum(1, turns, turns), {(0,): 2})))

    def chain(self, many, further=0):
        """A row of functions, the sizes of which are multiplied: each but the last one lets the next one begin with so many turns."""
        functions = tuple((name, 2) for name in ("a", "b", "c", "d", "e", "g", "h", "i", "j", "k")[:many])
        rules = []
        for f in range(many):
            rules.append((f, 0, ((-1, 1, 0),), 1, ((f, ((-1, 1, 0), (0, 1, 1))),), (0,) * 4))
            if f + 1 < many:
                rules.append((f, 0, (), 1, ((f + 1, ((further, 0, 1), (0, 0, 1))),), (0,) * 4))
        return System(functions, tuple(rules), ((0, 1, 0), (0, 0, 1)))

    def test_too_many(self):
        seen = {True: 0, False: 0}
        for many in range(1, 8):
            made = self.chain(many)
            keep = empty_keep(made)
            tree, sizes = tree_or_stay(made, keep, edges(made))[1], sizing(made, keep)
            rule = bounding.Rule(made, tree, sizes)
            polys = {item: rule.poly(item) for item in rule.items()}
            for item in rule.items():
                met, ahead = {item}, [item]
                while ahead:
                    further = set(rule.hangs(ahead.pop())) - met
                    met |= further
                    ahead.extend(further)
                fits = all(is_poly(2, polys[other]) for other in met)
                seen[fits] += 1
                if fits:
                    self.assertEqual(bound(made, keep, tree, sizes, item), ("within", polys[item]))
                else:
                    self.refuses(TooMany, bound, made, keep, tree, sizes, item, keeps={"limit": 300})
            self.refuses(InvalidOperation, bound, made, keep, tree, sizes, ("costs",))
        self.assertGreater(min(seen.values()), 8)

    def test_exponents(self):
        # Over one size: few members, but exponents that are doubled along the row of functions.
        seen = set()
        for many in range(1, 8):
            inner = self.chain(many)
            functions = (("s", 1), *inner.functions)
            rules = [(f + 1, u, guard, cost, tuple((g + 1, told) for g, told in calls), result) for f, u, guard, cost, calls, result in inner.rules]
            made = System(functions, ((0, 0, (), 1, ((1, ((0, 1), (0, 1))),), (0, 0, 0)), *rules))
            keep = empty_keep(made)
            tree, sizes = tree_or_stay(made, keep, edges(made))[1], sizing(made, keep)
            poly = bounding.Rule(made, tree, sizes).poly(COST)
            self.assertLess(len(poly), 150)
            seen.add((max(poly)[0] > 40, is_poly(1, poly)))
            if max(poly)[0] > 40:
                self.refuses(TooMany, bound, made, keep, tree, sizes, COST, keeps={"limit": 300})
            else:
                self.assertEqual(bound(made, keep, tree, sizes, COST), ("within", poly))
        self.assertEqual(seen, {(True, False), (False, True)})

    def test_refused_ahead_of_too_many(self):
        # What is refused has no poly at all: the refusal is told, however great other polys are.
        made = self.chain(8)
        fork = (1, 0, ((-9, 1, 0),), 1, ((1, ((-1, 1, 0), (0, 0, 1))), (1, ((-1, 1, 0, 0), (0, 0, 1, 0)))), (0,) * 5)
        made = System(made.functions, (*made.rules, fork), made.start_rows)
        keep = empty_keep(made)
        tree, sizes = tree_or_stay(made, keep, edges(made))[1], sizing(made, keep)
        word, found = bound(made, keep, tree, sizes, COST)
        self.assertEqual((word, found[0]), ("refused", COST))
        self.is_just(True, is_refusal(made, keep, tree, sizes, COST, found))

    def test_coming_back(self):
        # An inner ring whose turns hang on a size that grows by these turns: the way comes back to an equal item.
        made = System((("f", 3),), (
            (0, 0, ((-1, 1, 0, 0),), 1, ((0, ((-1, 1, 0, 0), (0, 0, 0, 1), (0, 0, 0, 1))),), (0,) * 5),
            (0, 0, ((-1, 0, 1, 0),), 1, ((0, ((0, 1, 0, 0), (-1, 0, 1, 0), (1, 0, 0, 1))),), (0,) * 5)))
        keep = empty_keep(made)
        tree, sizes = tree_or_stay(made, keep, edges(made))[1], sizing(made, keep)
        turns = ("turns", (1, 0))
        word, found = bound(made, keep, tree, sizes, turns)
        self.assertEqual((word, found[-1] in found[:-1]), ("refused", True))
        size, grown = ("size", (0, 0), 1), ("size", (1, 0), 2)
        ring = (turns, size, grown)
        self.is_just(True, is_refusal(made, keep, tree, sizes, turns, (*ring, turns)))
        self.is_just(False, is_refusal(made, keep, tree, sizes, turns, ring))
        self.is_just(False, is_refusal(made, keep, tree, sizes, turns, (turns, size, turns)))
        self.is_just(True, is_refusal(made, keep, tree, sizes, turns, (*ring, *ring, *ring)))
        self.is_just(False, is_refusal(made, keep, tree, sizes, size, (*ring, turns)))
        self.is_just(True, is_refusal(made, keep, tree, sizes, size, (size, grown, turns, size)))

    def test_what_is_not_true(self):
        # [12.7]. A refused item that some poly bounds: no more than one turn, as y is at most 1.
        fork = System((("f", 1),), ((0, 0, ((-1, 1), (1, -1)), 1, ((0, ((-1, 1),)), (0, ((-1, 1, 0),))), (0,) * 4),))
        none = empty_keep(fork)
        tree, sizes = tree_or_stay(fork, none, edges(fork))[1], sizing(fork, none)
        self.assertEqual(bound(fork, none, tree, sizes, COST)[0], "refused")
        # Another tree, another poly: the rank twice.
        other = ((((0, 0),), (((0, 0), (((-2, 2),), ((1, 1, 0), (1, 0, 2)))),), ()),)
        self.assertEqual(bound(DOWN, NONE, other, SIZES, COST), ("within", {(1,): 2}))
        self.assertEqual(bound(DOWN, NONE, TREE, SIZES, COST), ("within", {(1,): 1}))
        # Called more often, by an edge whose rule costs nothing.
        free = System((("f", 1),), ((0, 0, ((-1, 1),), 0, ((0, ((-1, 1),)),), (0, 0, 0)), (0, 0, (), 5, (), (0, 0))))
        tree, sizes = tree_or_stay(free, NONE, edges(free))[1], sizing(free, NONE)
        self.assertEqual(bound(free, NONE, tree, sizes, COST), ("within", {(0,): 5}))


class RunsTest(Bounds):
    def walk(self, made, inputs, most):
        """A drawn run, rules with calls being taken more often."""
        standing, choices = Standing(made, inputs), []
        while standing.call is not None and len(choices) < most:
            fit = fitting(made, standing.call, 2)
            if not fit:
                break
            further = [choice for choice in fit if made.rules[choice[0]][4]]
            choice = self.draw.choice(further if further and self.draw.random() < 0.8 else fit)
            choices.append(choice)
            standing = standing.after(choice)
        return standing, tuple(choices)

    def met_in(self, made, inputs, choices):
        """What comes in a run, by a machine of the tests' own: counts, calls, sizes, and what is paid."""
        calls = Nest(made, inputs, choices).calls
        met = {COST: sum(made.rules[call.rule][3] for call in calls if call.rule is not None)}
        for call in calls:
            if call.rule is not None:
                met["rule", call.rule] = met.get(("rule", call.rule), 0) + 1
            if call.edge is not None:
                met["calls", call.edge] = met.get(("calls", call.edge), 0) + 1
                for j, number in enumerate(call.values):
                    met["size", call.edge, j] = max(abs(number), met.get(("size", call.edge, j), 0))
        return met

    def test_along_runs(self):
        seen = {"calls": 0, "size": 0, "rule": 0, "cost": 0, "steps": 0}
        reached = 0
        for _ in range(110):
            made = bounding.falling(self.draw, 4, 7, 0.1, 0.2)
            keep = greatest(made, usual(made))[0]
            try:
                word, tree = tree_or_stay(made, keep, edges(made))
            except TooMany:
                continue
            if word == "stay":
                continue
            sizes = sizing(made, keep)
            polys = {}
            for item in bounding.Rule(made, tree, sizes).items():
                try:
                    word, poly = bound(made, keep, tree, sizes, item)
                except TooMany:
                    continue
                if word == "within":
                    polys[item] = poly
            many = made.functions[0][1]
            for _ in range(5):
                inputs = tuple(self.draw.randint(-2, 5) for _ in range(many))
                if any(at(row, [1, *inputs]) < 0 for row in made.start_rows):
                    continue
                told = tuple(map(abs, inputs))
                standing, choices = self.walk(made, inputs, self.draw.choice([4, 15, 50]))
                met = self.met_in(made, inputs, choices)
                self.assertEqual(met[COST], standing.cost)
                for item, number in met.items():
                    if item in polys:
                        greatest_one = poly_at(many, polys[item], told)
                        self.assertLessEqual(number, greatest_one, (item, inputs, choices))
                        seen[item[0]] += number > 0
                        reached += number == greatest_one > 0
                found = steps_at_most(made, keep, tree, sizes, inputs)
                if found[0] == "steps":
                    self.assertLessEqual(len(choices), found[1])
                    seen["steps"] += 1
        self.assertGreater(min(seen.values()), 100, seen)
        self.assertGreater(reached, 100)


class StepsTest(Bounds):
    def test_drawn(self):
        seen = {}
        for turn in range(150):
            made, keep, tree, sizes = self.some(*[(), (4, 8, 0.1, 0.1), (2, 5, 0.5, 0.4)][turn % 3])
            for _ in range(3):
                size = self.draw.choice([0, 2, 9, 200, 10 ** 30, 10 ** 59])
                inputs = tuple(self.draw.randint(-size, size) for _ in range(made.functions[0][1]))
                found = steps_at_most(made, keep, tree, sizes, inputs)
                self.assertEqual(found, bounding.Length(made, tree, sizes).answer(inputs), (made.rules, inputs))
                seen[found[0]] = seen.get(found[0], 0) + 1
        self.assertGreater(min(seen.get(word, 0) for word in ("steps", "above", "outside")), 10, seen)

    def test_outside(self):
        made = System((("f", 2),), ((0, 1, ((-1, 1, 0, 0),), 1, ((0, ((-1, 1, 0, 0), (0, 0, 0, 1))),), (0,) * 5),) * 2)
        keep = empty_keep(made)
        tree, sizes = tree_or_stay(made, keep, edges(made))[1], sizing(made, keep)
        self.assertEqual(steps_at_most(made, keep, tree, sizes, (4, 4)), ("outside", (0, 0), 1))
        plain = (("plain",), ("outside",))
        other = ((("outside",), ("outside",)), plain)
        self.assertEqual(steps_at_most(made, keep, tree, other, (4, 4)), ("outside", (0, 0), 0))

    def test_rounds(self):
        # The ring of DOWN: as many rounds as its rank says, and one more; 3,000 in all are done, 3,001 are not.
        self.assertEqual(steps_at_most(DOWN, NONE, TREE, SIZES, (2998,)), ("steps", 3001))
        self.assertEqual(steps_at_most(DOWN, NONE, TREE, SIZES, (2999,)), ("above",))
        self.assertEqual(steps_at_most(DOWN, NONE, TREE, SIZES, (-2998,)), ("steps", 3001))
        self.assertEqual(steps_at_most(DOWN, NONE, TREE, SIZES, (10 ** 60 - 1,)), ("above",))

    def one_edge(self, form, two=False, many=1):
        """A function that calls another one once."""
        calls = ((1, (form,)), (1, (form + (0,),))) if two else ((1, (form,)),)
        return System((("f", 1), ("g", 1)), ((0, 0, (), 1, calls, (0,) * (2 + len(calls))),) * many)

    def test_great_numbers(self):
        made = self.one_edge((0, 10))
        keep, sizes = empty_keep(made), ((("plain",),),)
        # L is 2: m is multiplied by 10 twice.
        self.assertEqual(steps_at_most(made, keep, (), sizes, (10 ** 58,)), ("steps", 3))
        self.assertEqual(steps_at_most(made, keep, (), sizes, (10 ** 58 + 1,)), ("above",))
        self.assertEqual(steps_at_most(made, keep, (), sizes, (-10 ** 58 - 1,)), ("above",))
        # Two calls: L + 1 is taken as the height of a full tree; 2 ** 199 - 1 is below 10 ** 60, 2 ** 200 - 1 is not.
        made = self.one_edge((0, 1), True)
        self.assertEqual(steps_at_most(made, empty_keep(made), (), ((("plain",),),) * 2, (5,)), ("steps", 2 ** 4 - 1))
        rules = ((0, 0, (), 1, ((1, ((0, 1),)), (1, ((0, 1, 0),))), (0,) * 4),) * 80
        for count in (80, 79):
            made = System((("f", 1), ("g", 1)), rules[:count])
            number = 2 ** (2 * count + 2) - 1
            self.assertEqual(steps_at_most(made, empty_keep(made), (), ((("plain",),),) * (2 * count), (5,)), ("steps", number))
        fork = (0, 0, (), 1, ((1, ((0, 1),)), (1, ((0, 1, 0),))), (0,) * 4)
        made = System((("f", 1), ("g", 1)), (*DOWN.rules, *[fork] * 78))
        tree = ((((0, 0),), (((0, 0), (((-1, 1), (0, 0)), ((1, 0, 0), (1, 0, 1)))),), ()),)
        sizes = (*SIZES, *[(("plain",),)] * 156)
        # L is x + 158: 2 ** 199 - 1 is below 10 ** 60, 2 ** 200 - 1 is not.
        self.assertEqual(steps_at_most(made, empty_keep(made), tree, sizes, (40,)), ("steps", 2 ** 199 - 1))
        self.assertEqual(steps_at_most(made, empty_keep(made), tree, sizes, (41,)), ("above",))

    def test_no_inputs(self):
        made = System((("f", 0),), ((0, 0, (), 1, (), (0,)),))
        self.assertEqual(steps_at_most(made, empty_keep(made), (), (), ()), ("steps", 2))

    def test_errors(self):
        for value in strange():
            if not isinstance(value, System):
                self.refuses(InvalidSystem, steps_at_most, value, None, None, None, None)
            self.refuses(InvalidKeep, steps_at_most, DOWN, value, None, None, None)
            self.refuses(InvalidOperation, steps_at_most, DOWN, NONE, value, None, None)
            self.refuses(InvalidOperation, steps_at_most, DOWN, NONE, TREE, value, None)
            self.refuses(InvalidForm, steps_at_most, DOWN, NONE, TREE, SIZES, value)
        for value in near_misses((4,)):
            self.refuses(InvalidForm, steps_at_most, DOWN, NONE, TREE, SIZES, value)


class ErrorsTest(Bounds):
    def test_sequence(self):
        for value in strange():
            for call, more in [(bound, (None,)), (is_refusal, (None, None))]:
                if not isinstance(value, System):
                    self.refuses(InvalidSystem, call, value, None, None, None, *more)
                self.refuses(InvalidKeep, call, DOWN, value, None, None, *more)
                self.refuses(InvalidOperation, call, DOWN, NONE, value, None, *more)
                self.refuses(InvalidOperation, call, DOWN, NONE, TREE, value, *more)
            self.refuses(InvalidOperation, bound, DOWN, NONE, TREE, SIZES, value)
            self.refuses(InvalidOperation, is_refusal, DOWN, NONE, TREE, SIZES, value, None)
            self.is_just(False, is_refusal(DOWN, NONE, TREE, SIZES, COST, value))

    def test_items(self):
        wrong = [("cost", 0), ["cost"], ("costs",), ("rule",), ("rule", 1), ("rule", -1), ("rule", True), ("rule", False), ("rule", (0,)), ("calls", (0, 1)), ("calls", (1, 0)),
                 ("calls", [0, 0]), ("calls", (0, False)), ("calls", 0), ("calls",), ("turns", (0, 1)), ("turns", (False, 0)), ("turns", None), ("size", (0, 0)),
                 ("size", (0, 0), 1), ("size", (0, 0), -1), ("size", (0, 0), False), ("size", (0, 0), 0, 0), ("size", 0, 0), ("size", [0, 0], 0), ("Cost",), (1,), ("rule", "0")]
        for item in wrong:
            self.refuses(InvalidOperation, bound, DOWN, NONE, TREE, SIZES, item)
            self.refuses(InvalidOperation, is_refusal, DOWN, NONE, TREE, SIZES, item, ())
            self.is_just(False, is_refusal(DOWN, NONE, TREE, SIZES, COST, (COST, item)))
        # An edge that leaves has no turns.
        made = System((("f", 0), ("g", 0)), ((0, 0, (), 1, ((1, ()),), (0, 0)),))
        self.refuses(InvalidOperation, bound, made, empty_keep(made), (), ((),), ("turns", (0, 0)))
        self.assertEqual(bound(made, empty_keep(made), (), ((),), ("calls", (0, 0))), ("within", {(): 1}))

    def test_refusals_of_one_item(self):
        sizes = ((("outside",),),)
        size = ("size", (0, 0), 0)
        for value in [(), [size], (size, COST), (("size", (0, False), 0),), (size[0],), size, (list(size),), (size, None)]:
            self.is_just(False, is_refusal(DOWN, NONE, TREE, sizes, size, value), value)
        self.is_just(True, is_refusal(DOWN, NONE, TREE, sizes, size, (size,)))
        self.is_just(False, is_refusal(DOWN, NONE, TREE, SIZES, size, (size,)))

    def test_nothing_is_shared(self):
        found = bound(DOWN, NONE, TREE, SIZES, COST)[1]
        found.clear()
        self.assertEqual(bound(DOWN, NONE, TREE, SIZES, COST), ("within", {(1,): 1}))

    def test_keeps(self):
        # Trees and sizings by another keep are none.
        keep = ((((0, 1),),), ((),))
        for call, more in [(bound, (COST,)), (steps_at_most, ((4,),))]:
            self.refuses(InvalidOperation, call, DOWN, keep, TREE, SIZES, *more)
        self.refuses(InvalidOperation, bound, DOWN, NONE, (), SIZES, COST)
        self.refuses(InvalidOperation, bound, DOWN, NONE, TREE, (), COST)
        made = hidden.stairs(3)
        tree = tree_or_stay(made, empty_keep(made), edges(made))[1]
        self.refuses(InvalidOperation, bound, made, empty_keep(made), tree[0][2], sizing(made, empty_keep(made)), COST)


if __name__ == "__main__":
    unittest.main()
