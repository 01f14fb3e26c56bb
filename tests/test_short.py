import random
import unittest

from fallorflow.errors import InvalidNumber, InvalidSystem, Refused
from fallorflow.rules.machine import each_run, run
from fallorflow.rules.system import System
from fallorflow.texts.lead import full_inputs, system_of
from fallorflow.texts.short import can_cut, cut, short
from fallorflow.texts.speech import read_program
from tests import draws
from tests.values import SMALL, Refusing, strange

BIG = 1000000


def rule(function, values, guard=(), calls=(), cost=0, unknowns=0, result=None):
    """A rule whose result is that of its last call, or 0."""
    many = values + unknowns + len(calls)
    if result is None:
        result = (0,) * many + (1,) if calls else (0,) * (many + 1)
    return (function, unknowns, guard, cost, calls, result)


def pair(caller, *inner, further=()):
    """A system of f(x), p(x) and h(x): a rule of f, rules of p, and others."""
    return System((("f", 1), ("p", 1), ("h", 1)), (caller, *inner, rule(2, 1), *further))


PLAIN = rule(0, 1, calls=((1, ((2, 1),)),))
AHEAD = rule(0, 1, calls=((2, ((0, 1),)), (1, ((0, 1, 0),))))
SURE = rule(1, 1, result=(5, 3))


def outcomes(system, inputs, stretch, most):
    """The pairs of result and cost of all ended runs, and the costs of all runs, if none is left off at the most."""
    ended, costs, is_whole = set(), [], True
    for choices in each_run(system, inputs, stretch, most):
        standing = run(system, inputs, choices)
        costs.append(standing.cost)
        if standing.call is None:
            ended.add((standing.result, standing.cost))
        elif len(choices) == most:
            is_whole = False
    return ended, max(costs), is_whole


class ConditionsTest(Refusing, unittest.TestCase):
    def stays(self, system, function=1):
        self.is_just(False, can_cut(system, function))
        self.refuses(Refused, cut, system, function, keeps={"reason": ("stays",)})

    def goes(self, system, rules, function=1):
        self.is_just(True, can_cut(system, function))
        left = cut(system, function)
        self.assertEqual(left.rules, tuple(rules))
        self.assertEqual(left.functions, system.functions[:function] + system.functions[function + 1:])
        self.assertEqual(left.start_rows, system.start_rows)

    def test_plain(self):
        quiet = rule(1, 1)
        self.goes(pair(PLAIN, SURE), [(0, 0, (), 0, (), (11, 3)), quiet])
        deep = rule(1, 1, guard=((1, 1),), calls=((2, ((0, 2),)),), cost=4)
        self.goes(pair(PLAIN, SURE, deep), [
            (0, 0, (), 0, (), (11, 3)), (0, 0, ((3, 1),), 4, ((1, ((4, 2),)),), (0, 0, 1)), quiet])
        self.goes(pair(rule(0, 1, ((7, 1),), ((1, ((2, 1),)),), 3), SURE), [(0, 0, ((7, 1),), 3, (), (11, 3)), quiet])

    def test_unknowns_and_results(self):
        asking = rule(0, 1, ((1, 1, 1),), ((2, ((0, 1, 0),)), (1, ((4, 1, 2, 3),))), unknowns=1)
        inner = rule(1, 1, ((0, 0, 1),), ((2, ((6, 1, 2),)),), unknowns=1, result=(9, 5, 7, 8))
        made = (0, 2, ((1, 1, 1, 0), (0, 0, 0, 1)), 0, ((1, ((0, 1, 0, 0),)), (1, ((10, 1, 2, 2, 3),))), (29, 5, 10, 7, 15, 8))
        self.goes(pair(asking, inner, rule(1, 1)),
                  [made, (0, 1, ((1, 1, 1),), 0, ((1, ((0, 1, 0),)),), (0, 0, 0, 0)), rule(1, 1)])

    def test_first_and_rings(self):
        self.stays(pair(PLAIN, SURE), 0)
        self.stays(pair(PLAIN, rule(1, 1, calls=((1, ((0, 1),)),))))
        self.stays(System((("f", 1), ("p", 1)), (rule(1, 1, calls=((1, ((0, 1),)),)),)))

    def test_not_the_last_call_alone(self):
        self.stays(pair(rule(0, 1, calls=((1, ((0, 1),)), (2, ((0, 1, 0),)))), SURE))
        self.stays(pair(rule(0, 1, calls=((1, ((0, 1),)), (1, ((0, 1, 0),)))), SURE))
        self.is_just(True, can_cut(pair(AHEAD, SURE), 1))

    def test_just_the_result(self):
        for result in [(1, 0, 1), (0, 1, 1), (0, 0, 2), (0, 0, 0), (0, 0, -1)]:
            self.stays(pair(rule(0, 1, calls=((1, ((2, 1),)),), result=result), SURE))
        self.stays(pair(rule(0, 1, calls=((2, ((0, 1),)), (1, ((0, 1, 0),))), result=(0, 0, 1, 0)), SURE))

    def test_a_result_in_the_guard(self):
        told = rule(0, 1, calls=((2, ((0, 1),)), (1, ((0, 0, 1),))))
        self.stays(pair(told, SURE, rule(1, 1, ((0, 1),))))
        self.is_just(True, can_cut(pair(told, SURE, rule(1, 1, ((3, 0),))), 1))
        self.is_just(True, can_cut(pair(told, SURE), 1))

    def test_unknowns(self):
        for one, other, expected in [(0, 2, True), (1, 1, True), (2, 0, True), (1, 2, False), (2, 1, False)]:
            caller = rule(0, 1, calls=((1, ((0,) * (2 + one),)),), unknowns=one)
            self.is_just(expected, can_cut(pair(caller, SURE, rule(1, 1, ((1, 0) + (0,) * other,), unknowns=other)), 1))

    def test_guards(self):
        for one, other, expected in [(0, 8, True), (4, 4, True), (8, 0, True), (4, 5, False), (8, 1, False)]:
            caller = rule(0, 1, ((0, 1),) * one, ((1, ((0, 1),)),))
            self.is_just(expected, can_cut(pair(caller, SURE, rule(1, 1, ((1, 1),) * other)), 1))

    def test_calls(self):
        two = ((2, ((0, 1),)), (2, ((0, 1, 0),)))
        self.is_just(True, can_cut(pair(PLAIN, SURE, rule(1, 1, calls=two)), 1))
        self.is_just(True, can_cut(pair(AHEAD, SURE, rule(1, 1, calls=two[:1])), 1))
        self.stays(pair(AHEAD, SURE, rule(1, 1, calls=two)))

    def test_numbers(self):
        for argument, guard, result, told, expected in [
                ((0, 1000), (0, 1000), (0, 1), (0, 1), True), ((0, 1000), (0, 1001), (0, 1), (0, 1), False),
                ((0, 1000), (0, -1000), (0, 1), (0, 1), True), ((0, -1000), (0, 1001), (0, 1), (0, 1), False),
                ((0, 1000), (0, 1), (0, 1000), (0, 1), True), ((0, 1000), (0, 1), (0, 1001), (0, 1), False),
                ((0, 1000), (0, 1), (0, 1), (0, 1000), True), ((0, 1000), (0, 1), (0, 1), (0, 1001), False),
                ((1, 1), (BIG - 1, 1), (0, 1), (0, 1), True), ((1, 1), (BIG, 1), (0, 1), (0, 1), False)]:
            caller = rule(0, 1, calls=((1, (argument,)),))
            inner = rule(1, 1, (guard,), ((2, (told,)),), result=(*result, 0))
            self.is_just(expected, can_cut(pair(caller, SURE, inner), 1))

    def test_costs(self):
        for one, other, expected in [(1000, 0, True), (0, 1000, True), (600, 400, True), (600, 401, False)]:
            caller = rule(0, 1, calls=((1, ((0, 1),)),), cost=one)
            self.is_just(expected, can_cut(pair(caller, SURE, rule(1, 1, cost=other)), 1))

    def test_a_cost_behind_a_call(self):
        self.stays(pair(AHEAD, SURE, rule(1, 1, ((0, 1),), cost=1)))
        self.is_just(True, can_cut(pair(rule(0, 1, calls=AHEAD[4], cost=1), SURE), 1))

    def test_not_sure(self):
        shut = rule(1, 1, ((0, 1),))
        self.goes(pair(PLAIN, shut), [(0, 0, ((2, 1),), 0, (), (0, 0)), rule(1, 1)])
        self.is_just(True, can_cut(pair(PLAIN, rule(1, 1, ((0, 1),), cost=9)), 1))
        self.stays(pair(rule(0, 1, calls=PLAIN[4], cost=1), shut))
        self.stays(pair(AHEAD, shut))
        # Unlike these, one that is sure is cut at a cost, and behind a call.
        self.is_just(True, can_cut(pair(rule(0, 1, calls=PLAIN[4], cost=1), shut, SURE), 1))
        self.is_just(True, can_cut(pair(AHEAD, shut, SURE), 1))

    def test_sure(self):
        costly = rule(0, 1, calls=PLAIN[4], cost=1)
        tests = ((2, 1), (3, -1), (0, 5))
        ways = [tests, ((-3, -1),), ((2, 1), (-4, 1)), ((2, 1), (3, -1), (-1, -5))]
        inner = [rule(1, 1, guard) for guard in ways]
        draw = random.Random(1)
        for _ in range(10):
            draw.shuffle(inner)
            self.is_just(True, can_cut(pair(costly, *inner), 1))
            self.is_just(True, can_cut(pair(costly, *inner, rule(1, 1, ((7, 7),))), 1))
        for at in range(4):
            self.stays(pair(costly, *inner[:at], *inner[at + 1:]))
        # Those of one test, and an unknown that is asked for.
        self.is_just(True, can_cut(pair(costly, rule(1, 1, ((-3, -1),)), rule(1, 1, ((2, 1),))), 1))
        self.stays(pair(costly, rule(1, 1, ((2, 1, 0),), unknowns=1), rule(1, 1, ((-3, -1, 0),), unknowns=1)))
        self.stays(pair(costly, rule(1, 1, ((2, 1),)), rule(1, 1, ((-2, -1),))))
        self.is_just(True, can_cut(pair(costly, rule(1, 1, unknowns=2)), 1))

    def test_without_rules(self):
        self.goes(pair(PLAIN), [rule(1, 1)])
        self.stays(pair(rule(0, 1, calls=PLAIN[4], cost=1)))
        self.stays(pair(AHEAD))

    def test_nothing_calls_it(self):
        self.goes(pair(rule(0, 1), SURE, rule(1, 1, ((1, 1),))), [rule(0, 1), rule(1, 1)])
        self.goes(System((("f", 0), ("p", 2), ("q", 0)), (rule(2, 0, calls=((0, ()),)),)), [rule(1, 0, calls=((0, ()),))])

    def test_rules(self):
        for many, expected in [(9, True), (10, False)]:
            # 8 callers, each with 9 or 10 inner rules: 72 and 8 others, or 80 and 8.
            callers = [rule(0, 1, ((at, 1),), PLAIN[4]) for at in range(8)]
            system = System((("f", 1), ("p", 1)), (*callers, *[rule(1, 1, ((at, 1),)) for at in range(many)],
                                                   *[rule(0, 1, ((at, 2),)) for at in range(8)]))
            self.is_just(expected, can_cut(system, 1))
        callers = [rule(0, 1, ((at, 1),), PLAIN[4]) for at in range(27)]
        for other, expected in [(26, True), (27, False)]:
            # 27 times 2 and 26 others are 80.
            system = System((("f", 1), ("p", 1)), (*callers, *[rule(0, 1)] * other, rule(1, 1), rule(1, 1, ((1, 1),))))
            self.is_just(expected, can_cut(system, 1))
            if expected:
                self.assertEqual(len(cut(system, 1).rules), 80)

    def test_the_place_of_the_joined(self):
        inner = [rule(1, 1, result=(at, 0)) for at in range(2)]
        system = System((("f", 1), ("p", 1)), (inner[0], rule(0, 1, result=(8, 0)), PLAIN, rule(0, 1, result=(9, 0)), inner[1]))
        self.assertEqual([told[5][0] for told in cut(system, 1).rules], [8, 0, 1, 9])

    def test_errors(self):
        for value in strange():
            if not isinstance(value, System):
                for call in (can_cut, cut):
                    self.refuses(InvalidSystem, call, value, None)
                self.refuses(InvalidSystem, short, value)
            for call in (can_cut, cut):
                self.refuses(InvalidNumber, call, SMALL, value, keeps={"given": value})
        for number in (-1, 1):
            self.refuses(InvalidNumber, can_cut, SMALL, number, keeps={"given": number})


class RunsTest(unittest.TestCase):
    def setUp(self):
        self.draw = random.Random(9)

    def drawn(self):
        """A system many of whose rules do just one last call."""
        functions = tuple((name, self.draw.randint(0, 2)) for name in ("f", "g", "h"))
        rules = []
        for _ in range(self.draw.randint(2, 6)):
            index, unknowns, guard, cost, calls, result = draws.rule(self.draw, functions, 2)
            cost = self.draw.choice([0, 0, cost])
            guard = guard[:self.draw.randint(0, 2)]
            if calls and self.draw.random() < 0.8:
                result = (0,) * (len(result) - 1) + (1,)
            rules.append((index, unknowns, guard, cost, calls, result))
        return System(functions, tuple(rules))

    def same(self, system, left, inputs, most):
        """Each cut does at most two steps at once."""
        ahead, high, is_whole = outcomes(system, inputs, 1, most)
        behind, other, _ = outcomes(left, inputs, 1, most)
        self.assertLessEqual(ahead, behind)
        few, _, _ = outcomes(left, inputs, 1, most // 2)
        self.assertLessEqual(few, ahead)
        if is_whole:
            self.assertEqual(high, other)
            self.assertEqual(ahead, behind)
        return len(ahead), is_whole

    def test_drawn(self):
        cuts = ends = whole = 0
        while cuts < 150:
            system = self.drawn()
            for function in (1, 2):
                if can_cut(system, function):
                    inputs = tuple(self.draw.randint(-1, 2) for _ in range(system.functions[0][1]))
                    found, is_whole = self.same(system, cut(system, function), inputs, 4)
                    cuts, ends, whole = cuts + 1, ends + (found > 0), whole + (is_whole and found > 1)
        self.assertGreater(ends, 30)
        self.assertGreater(whole, 5)

    def test_short(self):
        for _ in range(200):
            system = self.drawn()
            left = system
            while any(can_cut(left, function) for function in range(len(left.functions))):
                left = cut(left, min(function for function in range(len(left.functions)) if can_cut(left, function)))
            self.assertEqual(short(system), left)
            self.assertEqual(short(short(system)), left)
            self.assertEqual(short(system), short(system))

    def test_programs(self):
        text = ("proc main n with m\n  while n - 1 >= 0\n    m = call sum n, m\n    pay 2\n    n = n - 1\n  end\n  give m\nend\n"
                "proc sum a b\n  if a - b >= 0 and b - 1 >= 0\n    give a + b\n  else\n    give b + 1\n  end\nend\n")
        program = read_program(text)
        system = system_of(program)
        left = short(system)
        self.assertLess(len(left.functions), 5)
        for number in range(4):
            inputs = full_inputs(program, (number,))
            self.assertEqual(outcomes(system, inputs, 0, 40)[:2], outcomes(left, inputs, 0, 40)[:2])

    def test_what_is_not_true(self):
        # [5.8]: of two functions that call one another the one that is cut first goes, the other stays.
        system = System((("f", 0), ("p", 1), ("q", 0)), (rule(2, 0, calls=((1, ((7,),)),), cost=4), rule(1, 1, calls=((2, ()),))))
        self.assertEqual(short(system).rules, (rule(1, 0, calls=((1, ()),), cost=4),))
        self.assertEqual(short(cut(system, 2)).rules, (rule(1, 1, calls=((1, ((7, 0),)),), cost=4),))


if __name__ == "__main__":
    unittest.main()
