import random
import unittest

from fallorflow.errors import InvalidChoice, InvalidForm, InvalidNumber, InvalidOperation, InvalidSystem, Refused
from fallorflow.rules import machine as module
from fallorflow.rules.machine import Standing, each_run, ended, entered, is_run, run, tally
from fallorflow.rules.system import System, goal, source
from tests import draws
from tests.values import SMALL, Refusing, near_misses, odd_parts, strange
from tests.walks import Walk, all_runs

TREE = System((("f", 1),), ((0, 0, ((-1, 1),), 2, ((0, ((-1, 1),)), (0, ((-1, 1, 0),))), (1, 0, 1, 1)), (0, 0, ((0, -1),), 1, (), (0, 0))),
              ((0, 1), (5, -1)))
ASK = System((("f", 2), ("g", 0)), ((0, 2, ((0, 1, 0, 1, 0), (3, 0, 0, -1, -1)), 7, ((1, ()),), (0, 0, 1, 1, 1, 1)), (1, 1, (), 0, (), (0, 1))))
LOOP = System((("f", 0),), ((0, 0, (), 1, ((0, ()),), (0, 0)),))
STUCK = System((("f", 1),), ())
LONG = 10 ** 60 - 1


def drawn_run(draw, made, inputs, most):
    """A row of choices that fit, as far as some are found."""
    row = ()
    while len(row) < most:
        standing = run(made, inputs, row)
        if standing.call is None:
            return row
        tries = [(draw.randrange(len(made.rules)), draw.randint(-2, 2), draw.randint(-2, 2)) for _ in range(30) if made.rules]
        tries = [(rule, (one, other)[:made.rules[rule][1]]) for rule, one, other in tries]
        fitting = [choice for choice in tries if is_run(made, inputs, (*row, choice))]
        if not fitting:
            return row
        row = (*row, draw.choice(fitting))
    return row


class Machine(Refusing, unittest.TestCase):
    def setUp(self):
        self.draw = random.Random(41)

    def drawn(self, most_functions=3, most_rules=6):
        while True:
            made = draws.system(self.draw, most_functions, most_rules)
            inputs = tuple(self.draw.randint(-3, 3) for _ in range(made.functions[0][1]))
            if all(row[0] + sum(a * b for a, b in zip(row[1:], inputs)) >= 0 for row in made.start_rows):
                return made, inputs


class StandingTest(Machine):
    def test_constants(self):
        self.assertEqual((module.MOST_CHOICES, module.MAX_STRETCH, module.MAX_DEEP), (2000, 5, 40))

    def test_first(self):
        first = Standing(TREE, (3,))
        self.assertIs(first.system, TREE)
        told = (first.call, first.pile, first.cost, first.steps, first.result)
        self.assertEqual(told, ((0, (3,)), (), 0, 0, None))
        self.assertEqual(str(first), "standing behind 0 steps, cost 0, 0 deep")
        for name in ("system", "call", "pile", "cost", "steps", "result"):
            with self.assertRaises(AttributeError):
                setattr(first, name, None)
            self.assertIn(name, vars(Standing))
        self.assertIn("after", vars(Standing))

    def test_after(self):
        first = Standing(TREE, (1,))
        second = first.after((0, ()))
        self.assertEqual((second.call, second.pile, second.cost, second.steps), ((0, (0,)), ((0, (1,), 0),), 2, 1))
        self.assertEqual(first, Standing(TREE, (1,)))
        third = second.after((1, ()))
        self.assertEqual((third.call, third.pile, third.cost), ((0, (0,)), ((0, (1, 0), 1),), 3))
        last = third.after((1, ()))
        self.assertEqual((last.call, last.pile, last.cost, last.steps, last.result), (None, (), 4, 3, 1))
        self.assertEqual(str(last), "standing behind 3 steps, cost 4, ended")
        self.assertEqual(str(third), "standing behind 2 steps, cost 3, 1 deep")

    def test_after_errors(self):
        first = Standing(TREE, (1,))
        for choice in [(2, ()), (-1, ()), (0, (1,)), (0, [1]), [0, ()], (0,), (0, (), 0), (True, ()), (0, None), *strange()]:
            self.refuses(InvalidChoice, first.after, choice)
        asked = Standing(ASK, (3, 0))
        for unknowns in [*near_misses((1, 2)), (), (1,)]:
            self.refuses(InvalidChoice, asked.after, (0, unknowns))
        self.refuses(Refused, first.after, (1, ()), keeps={"reason": ("guard", 0)})
        self.refuses(Refused, asked.after, (1, (0,)), keeps={"reason": ("function",)})
        self.refuses(Refused, asked.after, (0, (-4, 8)), keeps={"reason": ("guard", 0)})
        self.refuses(Refused, asked.after, (0, (0, 4)), keeps={"reason": ("guard", 1)})
        last = run(TREE, (0,), ((1, ()),))
        self.refuses(Refused, last.after, (1, ()), keeps={"reason": ("ended",)})
        self.refuses(Refused, last.after, (0, ()), keeps={"reason": ("ended",)})
        self.refuses(InvalidChoice, last.after, None)

    def test_long_numbers(self):
        wide = Standing(ASK, (LONG, LONG)).after((0, (LONG, -LONG))).after((1, (LONG,)))
        self.assertEqual(wide.result, 2 * LONG)
        self.refuses(InvalidForm, Standing, ASK, (LONG + 1, 0))
        self.refuses(InvalidChoice, Standing(ASK, (0, 0)).after, (0, (LONG + 1, 0)))

    def test_errors(self):
        calls = [(Standing, ()), (run, ((),)), (is_run, ((),)), (entered, ((),)), (ended, ((),)), (tally, ((),))]
        for call, more in [(call, (None,) * len(more)) for call, more in calls]:
            for value in strange():
                if not isinstance(value, System):
                    self.refuses(InvalidSystem, call, value, None, *more)
            for value in [*strange(), *near_misses((1,))]:
                if repr(value) != "(0,)":
                    self.refuses(InvalidForm, call, TREE, value, *more)
            self.refuses(Refused, call, TREE, (-1,), *more, keeps={"reason": ("given", 0)})
            self.refuses(Refused, call, TREE, (6,), *more, keeps={"reason": ("given", 1)})

    def test_equal(self):
        one = run(TREE, (2,), ((0, ()),))
        self.is_just(True, one == Standing(TREE, (2,)).after((0, ())))
        self.is_just(False, one != Standing(TREE, (2,)).after((0, ())))
        for other in [Standing(TREE, (2,)), run(TREE, (3,), ((0, ()),)), None, 1, (), TREE, *strange()]:
            self.is_just(False, one == other)
            self.is_just(True, one != other)
        cheap = System(TREE.functions, ((*TREE.rules[0][:3], 1, *TREE.rules[0][4:]), TREE.rules[1]), TREE.start_rows)
        self.is_just(False, one == run(cheap, (2,), ((0, ()),)))
        same = System((("f", 0),), ((0, 0, (), 1, ((0, ()),), (0, 0)), (0, 0, (), 2, (), (0,)), (0, 0, (), 1, (), (0,)), (0, 0, (), 2, (), (1,))))
        self.is_just(True, run(same, (), ((0, ()), (1, ()))) == run(same, (), ((0, ()), (3, ()))))
        self.is_just(False, run(same, (), ((0, ()), (1, ()))) == run(same, (), ((0, ()), (2, ()))))
        self.is_just(False, run(same, (), ((1, ()),)) == run(same, (), ((3, ()),)))
        self.is_just(False, Standing(TREE, (2,)) == Standing(TREE, (3,)))
        more = System(TREE.functions, (*TREE.rules, TREE.rules[1]), TREE.start_rows)
        self.is_just(False, one == run(more, (2,), ((0, ()),)))
        twins = System((("f", 0),), ((0, 0, (), 0, ((0, ()),), (0, 0)), (0, 0, (), 0, ((0, ()),), (0, 0)), (0, 0, (), 0, (), (0,))))
        self.is_just(False, run(twins, (), ((0, ()),)) == run(twins, (), ((1, ()),)))
        self.is_just(False, run(twins, (), ((2, ()),)) == run(twins, (), ((0, ()), (2, ()))))
        self.is_just(True, run(twins, (), ((1, ()), (2, ()))) == run(twins, (), ((0, ()), (2, ()))))
        self.assertRaises(TypeError, lambda: iter(one))
        self.assertRaises(TypeError, lambda: one < one)

    def test_drawn(self):
        calls = {0: 0, 1: 0, 2: 0}
        for _ in range(300):
            made, inputs = self.drawn()
            row = drawn_run(self.draw, made, inputs, 12)
            for length in range(len(row) + 1):
                self.look_at(made, inputs, row[:length])
            for rule, _ in row:
                calls[len(made.rules[rule][4])] += 1
        self.assertGreater(min(calls.values()), 100)

    def look_at(self, made, inputs, row):
        standing, walk = run(made, inputs, row), Walk(made, inputs, row)
        self.assertEqual(walk.done, len(row))
        self.assertEqual((standing.call, standing.pile), (walk.waiting, walk.pile()))
        self.assertEqual((standing.cost, standing.steps, standing.result), (walk.cost, len(row), walk.result))
        self.assertEqual(entered(made, inputs, row), tuple(walk.made))
        self.assertEqual(ended(made, inputs, row), tuple(walk.ends))
        self.look_at_chain(made, standing)
        rules, made_by = tally(made, inputs, row)
        self.assertEqual(rules, {rule: [choice[0] for choice in row].count(rule) for rule, _ in row})
        edges = [edge for edge, _ in walk.made if edge is not None]
        self.assertEqual(made_by, {edge: edges.count(edge) for edge in edges})
        self.assertEqual((list(rules), list(made_by)), (sorted(rules), sorted(made_by)))

    def look_at_chain(self, made, standing):
        # [4.4]: the pile and the call are a chain from the function 0 on.
        place = 0
        for rule, _, number in standing.pile:
            self.assertEqual(source(made, (rule, number)), place)
            place = goal(made, (rule, number))
        if standing.call is not None:
            self.assertEqual(standing.call[0], place)


class RunsTest(Machine):
    def test_run(self):
        self.assertEqual(run(LOOP, (), ()), Standing(LOOP, ()))
        self.assertEqual(str(run(LOOP, (), ((0, ()),) * 2000)), "standing behind 2000 steps, cost 2000, 2000 deep")
        self.refuses(InvalidOperation, run, LOOP, (), ((0, ()),) * 2001)
        self.is_just(True, is_run(LOOP, (), ((0, ()),) * 2000))
        self.is_just(False, is_run(LOOP, (), ((0, ()),) * 2001))
        self.refuses(Refused, run, TREE, (1,), ((0, ()), (1, ()), (0, ()), None) [:3], keeps={"reason": ("choice", 2)})
        self.refuses(Refused, run, TREE, (0,), ((1, ()), (1, ())), keeps={"reason": ("choice", 1)})
        self.refuses(Refused, run, TREE, (0,), ((0, ()), (1, ())), keeps={"reason": ("choice", 0)})
        self.assertEqual(run(TREE, (0,), ((1, ()),)).result, 0)
        self.assertEqual(run(STUCK, (4,), ()).call, (0, (4,)))
        self.refuses(InvalidOperation, run, STUCK, (4,), ((0, ()),))

    def test_choices_that_are_none(self):
        right = ((0, ()), (1, ()))
        wrong = [list(right), [*right], {0: ()}, (right[0], list(right[1])), (*right, None), (*right, (2, ())), (*right, (0, (1,))),
                 (*right, (0, [])), (*right, (True, ())), ((0,),), *[value for value in strange() if value != ()]]
        for value in wrong:
            for call in (run, entered, ended, tally):
                self.refuses(InvalidOperation, call, TREE, (2,), value)
            self.is_just(False, is_run(TREE, (2,), value), repr(value)[:100])
        self.refuses(InvalidOperation, run, TREE, (2,), ((1, ()), None))
        for call in (entered, ended, tally):
            self.refuses(Refused, call, TREE, (2,), ((1, ()),), keeps={"reason": ("choice", 0)})
        self.is_just(False, is_run(TREE, (2,), ((1, ()),)))
        self.is_just(True, is_run(TREE, (2,), ()))
        for part in odd_parts():
            self.is_just(False, is_run(ASK, (0, 0), ((0, (0, part)),)))

    def test_long_runs(self):
        row = ((0, ()),) * 4 + ((1, ()),)
        self.assertEqual(run(TREE, (4,), row).pile[-1], (0, (1, 0), 1))
        deep = System((("f", 0),), ((0, 0, (), 1, ((0, ()), (0, ())), (0, 1, 1000000)), (0, 0, (), 0, (), (1,))))
        row = ((0, ()),) * 999 + ((1, ()),) * 1000
        self.assertEqual(run(deep, (), row).call, None)
        self.assertEqual(run(deep, (), row).result, Fold.result(999))
        self.assertEqual(tally(deep, (), row), ({0: 999, 1: 1000}, {(0, 0): 999, (0, 1): 999}))
        self.assertEqual(len(entered(deep, (), row)), 1999)
        self.assertEqual(len(ended(deep, (), row)), 1999)

    def test_what_is_not_true(self):
        # [4.6], one by one.
        self.assertEqual((run(STUCK, (4,), ()).result, list(each_run(STUCK, (4,), 5, 9))), (None, [()]))
        free = System((("f", 0),), ((0, 0, (), 0, ((0, ()),), (0, 0)), (0, 1, (), 0, (), (0, 1))))
        self.assertEqual([run(free, (), ((0, ()),) * many).cost for many in (1, 2)], [0, 0])
        self.assertEqual([run(free, (), ((1, (number,)),)).result for number in (3, 4)], [3, 4])
        down = System((("f", 0), ("g", 1)), (
            (0, 1, (), 0, ((1, ((0, 1),)),), (0, 0, 0)), (1, 0, ((-1, 1),), 0, ((1, ((-1, 1),)),), (0, 0, 0)), (1, 0, ((0, -1),), 0, (), (0, 0))))
        for many in (0, 5, 500):
            row = ((0, (many,)), *((1, ()),) * many, (2, ()))
            self.assertEqual(run(down, (), row).call, None)

    def test_nothing_is_shared(self):
        row = ((0, ()), (1, ()), (1, ()))
        rules, made = tally(TREE, (1,), row)
        rules[7] = 1
        made.clear()
        self.assertEqual(tally(TREE, (1,), row), ({0: 1, 1: 2}, {(0, 0): 1, (0, 1): 1}))
        for call in (run, entered, ended, tally):
            self.assertEqual(call(TREE, (1,), row), call(TREE, (1,), row))
        wrong = [[0, []], {0: [1]}]
        self.refuses(InvalidOperation, run, TREE, (1,), wrong)
        self.refuses(InvalidChoice, Standing(TREE, (1,)).after, wrong)
        self.assertEqual(wrong, [[0, []], {0: [1]}])

    def test_nothing_entered(self):
        self.assertEqual(entered(STUCK, (4,), ()), ((None, (4,)),))
        self.assertEqual(ended(STUCK, (4,), ()), ())
        self.assertEqual(tally(STUCK, (4,), ()), ({}, {}))


class Fold:
    """The result of the first of so many rules: each first call is the next one, each second one gives 1."""

    @staticmethod
    def result(many):
        found = 1
        for _ in range(many):
            found = found + 1000000
        return found


class EachRunTest(Machine):
    def first(self, *args):
        return next(each_run(*args))

    def test_errors(self):
        each_run(None, None, None, None)
        for value in strange():
            if not isinstance(value, System):
                self.refuses(InvalidSystem, self.first, value, None, None, None)
            if repr(value) != "(0,)":
                self.refuses(InvalidForm, self.first, TREE, value, None, None)
            self.refuses(InvalidNumber, self.first, TREE, (1,), value, None, keeps={"given": value})
            self.refuses(InvalidNumber, self.first, TREE, (1,), 0, value, keeps={"given": value})
        self.refuses(Refused, self.first, TREE, (-1,), None, None, keeps={"reason": ("given", 0)})
        for stretch in (-1, 6):
            self.refuses(InvalidNumber, self.first, TREE, (1,), stretch, None, keeps={"given": stretch})
        for most in (-1, 41):
            self.refuses(InvalidNumber, self.first, TREE, (1,), 5, most, keeps={"given": most})

    def test_told(self):
        self.assertEqual(list(each_run(STUCK, (1,), 5, 40)), [()])
        self.assertEqual(list(each_run(TREE, (1,), 5, 0)), [()])
        self.assertEqual(list(each_run(TREE, (0,), 5, 40)), [((1, ()),)])
        self.assertEqual(list(each_run(LOOP, (), 0, 40)), [((0, ()),) * 40])
        self.assertEqual(list(each_run(TREE, (1,), 0, 40)), [((0, ()), (1, ()), (1, ()))])
        found = list(each_run(ASK, (0, 0), 5, 1))
        fits = [(0, (a, b)) for a in range(-5, 6) for b in range(-5, 6) if a >= 0 and a + b <= 3]
        self.assertEqual(found, [(choice,) for choice in fits])
        self.assertEqual(list(each_run(ASK, (0, 0), 0, 9)), [((0, (0, 0)), (1, (0,)))])

    def test_begins_at_once(self):
        wide = System((("f", 0),), ((0, 2, (), 0, ((0, ()),), (0,) * 4),))
        self.assertEqual(self.first(wide, (), 5, 40), ((0, (-5, -5)),) * 40)

    def test_all_choices_are_looked_at(self):
        longest = 0
        for _ in range(120):
            made, inputs = self.drawn(2, 3)
            stretch = self.draw.choice([0, 0, 1])
            most = self.draw.randint(0, 3)
            found = list(each_run(made, inputs, stretch, most))
            self.assertEqual(found, all_runs(made, inputs, stretch, most))
            self.assertEqual(found, list(each_run(made, inputs, stretch, most)))
            longest = max(longest, len(found))
        self.assertGreater(longest, 20)

    def test_each_is_a_run(self):
        for _ in range(40):
            made, inputs = self.drawn()
            for row in list(each_run(made, inputs, 1, 4))[:50]:
                self.is_just(True, is_run(made, inputs, row))
        self.is_just(True, is_run(SMALL, (3,), ((0, ()),) * 3))
        self.is_just(False, is_run(SMALL, (3,), ((0, ()),) * 4))
