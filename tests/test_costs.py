import random
import unittest

from fallorflow.bills.least import least_bill
from fallorflow.bounds.bounds import bound, sizing
from fallorflow.bounds.polys import poly_at
from fallorflow.errors import InvalidForm, InvalidNumber, InvalidSystem, Refused, TooMany
from fallorflow.exact.costs import entered_calls, exact_cost, is_round, is_table
from fallorflow.fall.trees import tree_or_stay
from fallorflow.hold.keeps import greatest, usual
from fallorflow.rules.machine import Standing, each_run, run
from fallorflow.rules.system import System, edges
from tests import draws, papers
from tests.bending import bends_of, bent
from tests.draws import form
from tests.judging import at
from tests.nested import Nest
from tests.values import Refusing, near_misses, strange
from tests.walks import all_choices

LONG = 10 ** 80
TWICE = System((("f", 1),), ((0, 0, ((-1, 1),), 1, ((0, ((-1, 1),)), (0, ((-1, 1, 0),))), (0, 0, 0, 0)), (0, 0, ((0, -1),), 1, (), (0, 0))))
ROUND = System((("f", 0),), ((0, 0, (), 0, ((0, ()),), (0, 0)),))
# The first call goes down and can end; the second one is the same call again.
AGAIN = System((("f", 1), ("g", 1)), (
    (0, 1, ((1, 0, 1), (1, 0, -1)), 2, ((1, ((0, 1, 0),)), (0, ((0, 1, 0, 0),))), (0,) * 5),
    (1, 0, ((-1, 1),), 1, ((1, ((-1, 1),)),), (0, 0, 0)), (1, 0, ((0, -1),), 3, (), (0, 0))))


def drawn(draw, most_rules=5):
    """A small system no argument of which names a result; most of them go down somewhere."""
    count = draw.randint(1, 3)
    functions = tuple((name, draw.randint(0, 2)) for name in draw.sample(draws.NAMES, count))
    rules = []
    for _ in range(draw.randint(1, most_rules)):
        function = draw.randrange(count)
        own = functions[function][1]
        unknowns = draw.choice([0, 0, 1, 1, 2])
        known = own + unknowns
        guard = [form(draw, known, 2) for _ in range(draw.choice([0, 1, 2]))]
        if own and draw.random() < 0.7:
            guard.append((-1, 1, *[0] * (known - 1)))
        calls = []
        for number in range(draw.choice([0, 0, 1, 1, 2])):
            callee = draw.randrange(count)
            told = []
            for place in range(functions[callee][1]):
                row = form(draw, known, 1) if draw.random() < 0.4 or not own else (draw.choice([-1, -1, 0]), *[int(spot == min(place, own - 1)) for spot in range(known)])
                told.append(row + (0,) * number)
            calls.append((callee, tuple(told)))
        rules.append((function, unknowns, tuple(guard), draw.randint(0, 3), tuple(calls), form(draw, known + len(calls), 1)))
    return System(functions, tuple(rules))


class Second:
    """Entered calls, those that can end, and the table, by the words."""

    def __init__(self, system, inputs, stretch, most=400):
        self.system = system
        self.choices = all_choices(system, stretch)
        self.entered = {(0, inputs)}
        self.can_end = set()
        self.known = {}
        while True:
            before = (len(self.entered), len(self.can_end))
            for call in list(self.entered):
                for calls, _ in self.steps(call):
                    if calls:
                        self.entered.add(calls[0])
                    if len(calls) == 2 and calls[0] in self.can_end:
                        self.entered.add(calls[1])
                    if all(other in self.can_end for other in calls):
                        self.can_end.add(call)
            if len(self.entered) > most or before == (len(self.entered), len(self.can_end)):
                break

    def steps(self, call):
        """The pairs of the calls and the cost of all choices that fit."""
        if call in self.known:
            return self.known[call]
        found = self.known[call] = []
        for index, unknowns in self.choices:
            function, _, guard, cost, calls, _ = self.system.rules[index]
            known = [1, *call[1], *unknowns]
            if function == call[0] and all(at(row, known) >= 0 for row in guard):
                found.append(([(callee, tuple(at(told, [*known, 0]) for told in forms)) for callee, forms in calls], cost))
        return found

    def table(self):
        """The table, None if there is none."""
        found, on_way = {}, set()

        def told(call):
            if call in on_way:
                raise Refused(("round",))
            if call not in found:
                on_way.add(call)
                height, most, ended = 0, 0, None
                for calls, cost in self.steps(call):
                    numbers = [cost]
                    if calls:
                        first = told(calls[0])
                        height = max(height, first[0] + 1)
                        numbers.append(cost + first[1])
                        if len(calls) == 2 and calls[0] in self.can_end:
                            second = told(calls[1])
                            height = max(height, second[0] + 1)
                            numbers.append(cost + first[2] + second[1])
                    if all(other in self.can_end for other in calls):
                        end = cost + sum(told(other)[2] for other in calls)
                        ended = end if ended is None else max(ended, end)
                    most = max([most, *numbers])
                on_way.remove(call)
                found[call] = (height, most, ended)
            return found[call]

        try:
            for call in self.entered:
                told(call)
        except Refused:
            return None
        return found


@papers.judged
def is_own_round(system, inputs, stretch, value):
    """A round, by the words."""
    papers.tuples(3, value)
    way, further, endings = value
    papers.tuples(None, way)
    papers.tuples(None, further)
    papers.need(type(endings) is dict and further)

    def calls_by(call, choice):
        papers.tuples(2, choice)
        papers.need(type(choice[0]) is int and 0 <= choice[0] < len(system.rules))
        function, unknowns, guard, _, calls, _ = system.rules[choice[0]]
        papers.row(unknowns, choice[1])
        papers.need(stretch is None or all(abs(number) <= stretch for number in choice[1]))
        known = [1, *call[1], *choice[1]]
        papers.need(function == call[0] and all(at(row, known) >= 0 for row in guard))
        return [(callee, tuple(at(told, [*known, 0]) for told in forms)) for callee, forms in calls]

    def gone(call, steps):
        for step in steps:
            papers.tuples(2, step)
            calls = calls_by(call, step[0])
            papers.need(type(step[1]) is int and 0 <= step[1] < len(calls))
            papers.need(step[1] == 0 or calls[0] in endings)
            call = calls[step[1]]
        return call

    for call, told in endings.items():
        papers.tuples(2, call)
        papers.need(type(call[0]) is int and 0 <= call[0] < len(system.functions))
        papers.row(system.functions[call[0]][1], call[1])
        papers.tuples(2, told)
        papers.need(type(told[0]) is int and told[0] >= 0)
    for call, (height, choice) in endings.items():
        papers.need(all(other in endings and endings[other][0] < height for other in calls_by(call, choice)))
    call = gone((0, inputs), way)
    papers.need(gone(call, further) == call)


class Costs(Refusing, unittest.TestCase):
    def setUp(self):
        self.draw = random.Random(151)

    def some(self, *told):
        made = drawn(self.draw, *told)
        return made, tuple(self.draw.randint(-2, 4) for _ in range(made.functions[0][1])), self.draw.choice([0, 1, 1, 2])


class EitherOrTest(Costs):
    def test_drawn(self):
        seen = {"most": 0, "round": 0, "many": 0}
        deep = steps = 0
        for _ in range(500):
            made, inputs, stretch = self.some()
            second = Second(made, inputs, stretch)
            if len(second.entered) > 400:
                for call in (entered_calls, exact_cost):
                    self.refuses(TooMany, call, made, inputs, stretch, keeps={"limit": 400})
                seen["many"] += 1
                continue
            self.assertEqual(entered_calls(made, inputs, stretch), tuple(sorted(second.entered)))
            word, *found = exact_cost(made, inputs, stretch)
            seen[word] += 1
            table = second.table()
            self.assertEqual(word == "round", table is None)
            if word == "most":
                self.assertEqual(found, [table[0, inputs][1], table])
                self.assertEqual(list(found[1]), sorted(table))
                self.is_just(True, is_table(made, inputs, stretch, found[1]))
                self.is_just(False, is_round(made, inputs, stretch, tuple(found)))
                deep = max(deep, table[0, inputs][0])
            else:
                value = tuple(found)
                self.is_just(True, is_round(made, inputs, stretch, value))
                self.is_just(True, is_own_round(made, inputs, stretch, value))
                self.assertEqual(list(value[2]), sorted(value[2]))
                self.assertEqual(set(value[2]), second.can_end)
                steps += any(number == 1 for _, number in value[0] + value[1])
                self.look_at_long_run(made, inputs, value)
        self.assertGreater(min(seen.values()), 30, seen)
        self.assertGreater(deep, 3)
        self.assertGreater(steps, 3)

    def look_at_long_run(self, made, inputs, value):
        """The round, gone as a run: each first call of a step with the number 1 is led to its end by the endings."""
        way, further, endings = value
        standing = Standing(made, inputs)
        for choice, number in [*way, *further * 3]:
            standing = standing.after(choice)
            if number == 1:
                standing = self.to_second(standing, endings)
        self.assertGreaterEqual(standing.steps, len(way) + 3 * len(further))

    def to_second(self, standing, endings):
        """Behind the end of the call that is worked next."""
        depth = len(standing.pile)
        while len(standing.pile) > depth or standing.pile[depth - 1][2] == 0:
            standing = standing.after(endings[standing.call][1])
        return standing

    def test_all_runs(self):
        checked = 0
        while checked < 60:
            made, inputs, stretch = self.some(4)
            stretch = min(stretch, 1)
            second = Second(made, inputs, stretch, 30)
            table = second.table() if len(second.entered) <= 30 else None
            if table is None or table[0, inputs][0] > 3:
                continue
            runs = list(each_run(made, inputs, stretch, 9)) if table[0, inputs][0] <= 2 else []
            if not runs or max(map(len, runs)) == 9 or len(runs) > 3000:
                continue
            checked += 1
            worked = set()
            costs = []
            for choices in runs:
                costs.append(run(made, inputs, choices).cost)
                worked |= {(call.function, call.values) for call in Nest(made, inputs, choices).calls}
            self.assertEqual((max(costs), worked), (table[0, inputs][1], second.entered))
            self.assertEqual(exact_cost(made, inputs, stretch)[1:], (max(costs), table))
            ends = [run(made, inputs, choices) for choices in runs]
            ended = [standing.cost for standing in ends if standing.call is None]
            self.assertEqual(table[0, inputs][2], max(ended) if ended else None)

    def test_by_hand(self):
        self.assertEqual(exact_cost(TWICE, (2,), 0), ("most", 7, {(0, (0,)): (0, 1, 1), (0, (1,)): (1, 3, 3), (0, (2,)): (2, 7, 7)}))
        self.assertEqual(exact_cost(ROUND, (), 0), ("round", (), (((0, ()), 0),), {}))
        # No rule fits.
        self.assertEqual(exact_cost(System((("f", 1),), ()), (5,), 0), ("most", 0, {(0, (5,)): (0, 0, None)}))
        # A first call that never ends: the second one is not entered, and the cost of the rule is paid.
        stuck = System((("f", 0), ("g", 0), ("h", 0)), ((0, 0, (), 2, ((1, ()), (2, ())), (0, 0, 0)), (2, 0, (), 9, (), (0,))))
        self.assertEqual(exact_cost(stuck, (), 0), ("most", 2, {(0, ()): (1, 2, None), (1, ()): (0, 0, None)}))
        word, way, further, endings = exact_cost(AGAIN, (2,), 1)
        self.assertEqual((word, way, [number for _, number in further]), ("round", (), [1]))
        self.assertEqual({call: height for call, (height, _) in endings.items()}, {(1, (0,)): 0, (1, (1,)): 1, (1, (2,)): 2})

    def test_stretches(self):
        # The round lies at an unknown of 2, the cost rises with the stretch.
        made = System((("f", 1),), ((0, 1, ((-2, 0, 1), (2, 0, -1)), 1, ((0, ((0, 1, 0),)),), (0, 0, 0, 0)), (0, 1, ((0, 0, 1),), 3, (), (0, 0, 0))))
        self.assertEqual([exact_cost(made, (1,), stretch)[0] for stretch in range(4)], ["most", "most", "round", "round"])
        value = exact_cost(made, (1,), 2)[1:]
        self.assertEqual([is_round(made, (1,), stretch, value) for stretch in range(4)], [False, False, True, True])
        for _ in range(120):
            some, inputs, _ = self.some()
            costs = []
            for stretch in range(3):
                if len(Second(some, inputs, stretch).entered) > 400:
                    break
                found = exact_cost(some, inputs, stretch)
                costs.append(found[1] if found[0] == "most" else LONG)
            self.assertEqual(costs, sorted(costs))

    def test_below_bills_and_bounds(self):
        # [15.5]
        seen = [0, 0]
        for _ in range(200):
            made, inputs, stretch = self.some()
            keep = greatest(made, usual(made))[0]
            try:
                word, *found = exact_cost(made, inputs, stretch)
                bill = least_bill(made, keep, 0, inputs)
                kind, tree = tree_or_stay(made, keep, edges(made))
            except TooMany:
                continue
            if bill[0] == "least":
                self.assertLessEqual(found[0] if word == "most" else 0, bill[1][0] / bill[1][1])
                seen[0] += 1
            if kind == "tree":
                self.assertEqual(word, "most")
                kind, poly = bound(made, keep, tree, sizing(made, keep), ("cost",))
                if kind == "within":
                    self.assertLessEqual(found[0], poly_at(len(inputs), poly, tuple(map(abs, inputs))))
                    seen[1] += 1
        self.assertGreater(min(seen), 50)

    def test_four_hundred_calls(self):
        down = System((("f", 1),), ((0, 0, ((-1, 1),), 1, ((0, ((-1, 1),)),), (0, 0, 0)),))
        self.assertEqual(len(entered_calls(down, (399,), 0)), 400)
        word, cost, table = exact_cost(down, (399,), 0)
        self.assertEqual((word, cost, table[0, (399,)]), ("most", 399, (399, 399, None)))
        self.is_just(True, is_table(down, (399,), 0, table))
        for call in (entered_calls, exact_cost):
            self.refuses(TooMany, call, down, (400,), 0, keeps={"limit": 400})
        # The judge has no such bound.
        longer = {(0, (x,)): (x, x, None) for x in range(401)}
        self.is_just(True, is_table(down, (400,), 0, longer))
        self.is_just(False, is_table(down, (400,), 0, table))
        up = System((("f", 1),), ((0, 0, (), 1, ((0, ((1, 1),)),), (0, 0, 0)),))
        self.refuses(TooMany, exact_cost, up, (0,), 0, keeps={"limit": 400})
        self.is_just(False, is_table(up, (0,), 0, longer))
        ring = System((("f", 1),), tuple((0, 0, ((-x, 1), (x, -1)), 1, ((0, (((x + 1) % 70, 0),)),), (0, 0, 0)) for x in range(70)))
        word, way, further, _ = exact_cost(ring, (69,), 0)
        self.assertEqual((word, len(way) + len(further)), ("round", 70))

    def test_many_wakings(self):
        # Each call waits for others in turn: all can end at last.
        made = System((("f", 1),), ((0, 0, ((-1, 1),), 1, ((0, ((-1, 1),)), (0, ((-1, 1, 0),))), (0,) * 4), (0, 0, ((0, -1),), 0, (), (0, 0))))
        table = exact_cost(made, (390,), 0)[2]
        self.assertEqual(table[0, (390,)], (390, 2 ** 390 - 1, 2 ** 390 - 1))
        self.is_just(True, is_table(made, (390,), 0, table))

    def test_what_is_not_true(self):
        # [15.6]. The greatest cost without an end; no unknowns, and two runs; no cost, and no end.
        stuck = System((("f", 1),), ((0, 0, ((-1, 1),), 5, ((0, ((-9, 1),)),), (0, 0, 0)), (0, 0, (), 1, (), (0, 0))), ((0, 1),))
        self.assertEqual(exact_cost(stuck, (1,), 0)[1:], (6, {(0, (-8,)): (0, 1, 1), (0, (1,)): (1, 6, 6)}))
        free = System((("f", 1),), ((0, 0, ((-1, 1),), 5, ((0, ((-9, 1),)),), (0, 0, 0)),))
        self.assertEqual(exact_cost(free, (1,), 0)[1:], (5, {(0, (-8,)): (0, 0, None), (0, (1,)): (1, 5, None)}))
        self.assertEqual(len(list(each_run(stuck, (1,), 0, 5))), 2)
        self.assertEqual(exact_cost(ROUND, (), 0)[0], "round")


class JudgesTest(Costs):
    def bent_dicts(self, value):
        """A dict with one member left out, or another one more, or one bent."""
        found = [{}, {**value, (0, (77,) * 1): (0, 0, None)}, list(value.items()), tuple(value.items())]
        for key, told in list(value.items())[:6]:
            found.append({other: value[other] for other in value if other != key})
            for part in self.draw.sample(bends_of(told), 4):
                found.append({**value, key: part})
            for place, part in enumerate(told):
                for other in self.draw.sample(bends_of(part), 3):
                    found.append({**value, key: (*told[:place], other, *told[place + 1:])})
        return found

    def test_bent(self):
        seen = [0, 0]
        for _ in range(150):
            made, inputs, stretch = self.some()
            second = Second(made, inputs, stretch, 60)
            if len(second.entered) > 60:
                continue
            word, *found = exact_cost(made, inputs, stretch)
            if word == "most":
                table = found[1]
                for value in self.bent_dicts(table):
                    expected = isinstance(value, dict) and value == table and all(
                        type(told) is tuple and all(type(part) in (int, type(None)) for part in told) for told in value.values())
                    self.is_just(expected, is_table(made, inputs, stretch, value), repr(value)[:300])
                continue
            way, further, endings = found
            near = [*bent(self.draw, (way, further, None), 5), *[(way, further, told) for told in self.bent_dicts(endings)], (way, (), endings), (way + further, further, endings),
                    (way, further * 2, endings), (way + further[:1], further[1:] + further[:1], endings), (way[1:], further, endings), [way, further, endings], ("round", way, further, endings)]
            for value in near:
                if isinstance(value, tuple) and len(value) == 3 and value[2] is None:
                    value = (*value[:2], endings)
                expected = is_own_round(made, inputs, stretch, value)
                self.is_just(expected, is_round(made, inputs, stretch, value), repr(value)[:300])
                seen[expected] += 1
        self.assertGreater(min(seen), 100)

    def test_heights(self):
        value = exact_cost(AGAIN, (2,), 1)[1:]
        way, further, endings = value
        higher = {call: (5 * height + 2, choice) for call, (height, choice) in endings.items()}
        long = {call: (height + LONG, choice) for call, (height, choice) in endings.items()}
        for told, expected in [(endings, True), (higher, True), (long, True), ({call: (-1 - height, choice) for call, (height, choice) in endings.items()}, False),
                               ({call: (2 - height, choice) for call, (height, choice) in endings.items()}, False), ({call: (1, choice) for call, (_, choice) in endings.items()}, False),
                               ({**endings, (1, (3,)): (3, (1, ()))}, True), ({**endings, (1, (4,)): (3, (1, ()))}, False), ({**endings, (1, (-LONG,)): (0, (2, ()))}, True),
                               ({**endings, (1, (LONG,)): (0, (1, ()))}, False), ({call: told for call, told in endings.items() if call != (1, (2,))}, False),
                               ({**endings, (2, (0,)): (0, (2, ()))}, False), ({**endings, (1, ()): (0, (2, ()))}, False), ({**endings, 5: (0, (2, ()))}, False)]:
            self.is_just(expected, is_round(AGAIN, (2,), 1, (way, further, told)), told)
            self.is_just(expected, is_own_round(AGAIN, (2,), 1, (way, further, told)), told)

    def test_true_is_not_one(self):
        for value, expected in [({(0, (0,)): (0, 1, 1)}, True), ({(0, (0,)): (0, True, 1)}, False), ({(0, (0,)): (False, 1, 1)}, False), ({(0, (0,)): (0, 1, True)}, False),
                                ({(False, (0,)): (0, 1, 1)}, False), ({(0, (False,)): (0, 1, 1)}, False), ({(0, (0,)): [0, 1, 1]}, False), ({(0, (0,)): (0, 1.0, 1)}, False)]:
            self.is_just(expected, is_table(TWICE, (0,), 0, value), value)
        for value, expected in [(((), (((0, ()), 0),), {}), True), (((), (((0, ()), False),), {}), False), (((), (((False, ()), 0),), {}), False), (((), [((0, ()), 0)], {}), False),
                                (((), (((0, ()), 1),), {}), False), (((), (((0, ()), -1),), {}), False), (((), (((0, ()), 0),), ()), False), (((), (((0, ()), 0),), {(0, ()): (0, (0, ()))}), False)]:
            self.is_just(expected, is_round(ROUND, (), 0, value), value)

    def test_other_values(self):
        for value in strange():
            self.is_just(False, is_table(TWICE, (0,), 0, value), repr(value)[:200])
            self.is_just(False, is_round(ROUND, (), 0, value), repr(value)[:200])


class ErrorsTest(Costs):
    def test_sequence(self):
        named = System((("f", 1),), (TWICE.rules[1], (0, 0, (), 1, ((0, ((0, 1),)), (0, ((0, 0, 1),))), (0,) * 4)), ((0, 1),))
        calls = [(entered_calls, ()), (exact_cost, ()), (is_table, (None,)), (is_round, (None,))]
        for call, more in calls:
            for value in strange():
                if not isinstance(value, System):
                    self.refuses(InvalidSystem, call, value, None, None, *more)
                self.refuses(InvalidForm, call, TWICE, value, None, *more)
                self.refuses(InvalidNumber, call, TWICE, (0,), value, *more, keeps={"given": value})
            for value in near_misses((0,)):
                self.refuses(InvalidForm, call, TWICE, value, None, *more)
            for value in (-1, 4):
                self.refuses(InvalidNumber, call, TWICE, (0,), value, *more, keeps={"given": value})
            self.refuses(InvalidNumber, call, named, (-1,), 4, *more, keeps={"given": 4})
            self.refuses(Refused, call, named, (-1,), 0, *more, keeps={"reason": ("given", 0)})
            self.refuses(Refused, call, named, (1,), 0, *more, keeps={"reason": ("results", 1)})
            call(TWICE, (3,), 3, *more)

    def test_results(self):
        # The result of a rule may name results; arguments may not, but with the number 0.
        fine = System((("f", 1),), ((0, 0, ((-1, 1),), 1, ((0, ((-1, 1),)), (0, ((-1, 1, 0),))), (0, 0, 1, 1)), (0, 0, ((0, -1),), 1, (), (0, 0))))
        self.assertEqual(exact_cost(fine, (1,), 0)[:2], ("most", 3))
        for rules, index in [((TWICE.rules[0], (0, 1, (), 0, ((0, ((0, 0, 0),)), (0, ((0, 0, 0, 1),))), (0,) * 5)), 1), (((0, 0, ((-1, 0),), 0, ((0, ((0, 0),)), (0, ((0, 0, -2),))), (0,) * 4),) * 2, 0)]:
            self.refuses(Refused, exact_cost, System((("f", 1),), rules), (1,), 0, keeps={"reason": ("results", index)})

    def test_nothing_is_shared(self):
        found = exact_cost(TWICE, (1,), 0)[2]
        found.clear()
        self.assertEqual(exact_cost(TWICE, (1,), 0)[2], {(0, (0,)): (0, 1, 1), (0, (1,)): (1, 3, 3)})
        told = {(0, (0,)): (0, 1, 1)}
        is_table(TWICE, (0,), 0, told)
        self.assertEqual(told, {(0, (0,)): (0, 1, 1)})

    def test_long_values(self):
        self.assertEqual(exact_cost(TWICE, (-10 ** 60 + 1,), 0)[1], 1)
        grow = System((("f", 1),), ((0, 0, ((-1, 1),), 1, ((0, ((0, 1000000),)),), (0, 0, 0)),))
        self.refuses(TooMany, exact_cost, grow, (5,), 0, keeps={"limit": 400})
        self.refuses(InvalidForm, exact_cost, TWICE, (10 ** 60,), 0)


if __name__ == "__main__":
    unittest.main()
