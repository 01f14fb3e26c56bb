import random
import unittest

from fallorflow.errors import InvalidChoice, InvalidForm, InvalidNumber, InvalidOperation, InvalidText, Refused, TooMany
from fallorflow.rules.machine import Standing, each_run, run
from fallorflow.rules.system import System
from fallorflow.texts.lead import choices_of, full_inputs, outside_of, system_of
from fallorflow.texts.spoken import spoken
from tests import draws, talk
from tests.values import Refusing, near_misses, strange

HALF = ((("main", ("n",), ("m",), (
    ("while", ((-2, 1, 0),), (("pay", 1), ("set", 0, (-2, 1, 0)), ("set", 1, (1, 0, 1)))), ("give", (0, 0, 1)))),), ((0, 1),))
ASKS = ((("main", ("x",), ("y",), (
    ("any", 1, ((-1, 0, 1), (0, 1, -1))), ("choose", ((), (("pay", 3),), (("call", 1, ((0, 0, 1), (7, 0, 0)), 0),))), ("give", (0, 1, 0)))),
    ("f", ("a", "b"), ("c", "d"), (("set", 2, (0, 1, 1, 0, 1)),
                                    ("if", ((-5, 0, 0, 1, 0), (0, 1, 0, 0, 0)), (("give", (0, 0, 0, 1, 0)),), ())))), ())
WORD = "abcdefghijklmnopqrstuvwxyz"
LONG = 10 ** 60 - 1


def one(*body, parameters=("x",), inner=(), given=()):
    return ((("main", parameters, inner, body),), given)


class SpokenTest(Refusing, unittest.TestCase):
    def test_words(self):
        self.assertEqual(spoken(HALF, (7,), (), 100), ("ended", 3, 3, 14))
        self.assertEqual(spoken(HALF, (7,), (), 14), ("ended", 3, 3, 14))
        self.assertEqual(spoken(HALF, (7,), (), 13), ("most", None, 3, 13))
        self.assertEqual(spoken(HALF, (7,), (), 0), ("most", None, 0, 0))
        self.assertEqual(spoken(HALF, (0,), (5, 6), 2000), ("ended", 0, 0, 2))
        self.assertEqual(spoken(ASKS, (4,), (), 9), ("asks", None, 0, 0))
        self.assertEqual(spoken(ASKS, (4,), (), 0), ("most", None, 0, 0))
        self.assertEqual(spoken(ASKS, (4,), (0,), 9), ("stuck", None, 0, 0))
        self.assertEqual(spoken(ASKS, (4,), (5,), 0), ("most", None, 0, 0))
        self.assertEqual(spoken(ASKS, (4,), (5,), 1), ("stuck", None, 0, 0))
        self.assertEqual(spoken(ASKS, (4,), (4,), 9), ("asks", None, 0, 1))
        self.assertEqual(spoken(ASKS, (4,), (4,), 1), ("most", None, 0, 1))
        self.assertEqual(spoken(ASKS, (4,), (4, -3), 9), ("ended", 4, 0, 3))
        self.assertEqual(spoken(ASKS, (4,), (4, -2, 9), 9), ("ended", 4, 3, 4))
        self.assertEqual(spoken(ASKS, (4,), (4, 2), 90), ("ended", 11, 0, 7))
        self.assertEqual(spoken(ASKS, (9,), (1, -1), 90), ("ended", 8, 0, 7))

    def test_frames(self):
        self.assertEqual(spoken(one(), (5,), (), 9), ("ended", 0, 0, 1))
        self.assertEqual(spoken(one(("pay", 9), ("give", (1, 2)), ("pay", 100)), (5,), (), 9), ("ended", 11, 9, 2))
        self.assertEqual(spoken(one(("while", ((0, 1),), ())), (0,), (), 2000), ("most", None, 0, 2000))
        self.assertEqual(spoken(one(("while", ((0, 1),), ())), (-1,), (), 2000), ("ended", 0, 0, 2))
        self.assertEqual(spoken(one(("call", 0, ((0, 1),), None)), (1,), (), 2000), ("most", None, 0, 2000))
        self.assertEqual(spoken(one(("choose", ((), (("give", (1,)),), (("give", (2,)),))), parameters=()), (), (-1,), 9), ("ended", 2, 0, 2))
        grown = spoken(one(("while", ((0, 1),), (("set", 0, (0, 100000)),))), (LONG,), (), 2000)
        self.assertEqual(grown, ("most", None, 0, 2000))

    def test_errors(self):
        calls = [(spoken, 4), (full_inputs, 2), (choices_of, 4), (outside_of, 3)]
        for call, many in calls:
            for value in [*strange(), HALF[:1], list(HALF)]:
                self.refuses(InvalidText, call, value, *[None] * (many - 1))
            for value in [*strange(), *near_misses((1,))]:
                if repr(value) != "(0,)":
                    self.refuses(InvalidForm, call, HALF, value, *[None] * (many - 2))
        for value in [*strange(), HALF[:1]]:
            self.refuses(InvalidText, system_of, value)
        for call in (spoken, choices_of):
            for value in [*near_misses((1, 2)), (0,) * 1001, *strange()]:
                if not (isinstance(value, tuple) and all(type(part) is int and abs(part) <= LONG for part in value)):
                    self.refuses(InvalidChoice, call, HALF, (-1,), value, None)
            self.refuses(InvalidChoice, call, HALF, (-1,), (0,) * 1001, None)
            for value in [-1, 2001, *strange()]:
                self.refuses(InvalidNumber, call, HALF, (-1,), (), value, keeps={"given": value})
            self.refuses(Refused, call, HALF, (-1,), (0,) * 1000, 2000, keeps={"reason": ("given", 0)})
        self.refuses(Refused, full_inputs, HALF, (-1,), keeps={"reason": ("given", 0)})
        two = one(parameters=("x", "y"), given=((0, 1, 0), (3, 0, -1)))
        self.refuses(Refused, spoken, two, (0, 4), (), 0, keeps={"reason": ("given", 1)})
        self.refuses(Refused, outside_of, HALF, (-1,), None, keeps={"reason": ("given", 0)})

    def test_errors_of_runs(self):
        for value in [[(0, ())], ((0, ()), None), ((0, (1,)),), ((99, ()),), ((True, ()),), None, ((0, ()),) * 2001]:
            self.refuses(InvalidOperation, outside_of, HALF, (7,), value)
        self.refuses(Refused, outside_of, HALF, (7,), ((0, ()), (3, ())), keeps={"reason": ("choice", 1)})
        self.refuses(Refused, outside_of, HALF, (0,), ((0, ()),), keeps={"reason": ("choice", 0)})


class LeadTest(Refusing, unittest.TestCase):
    def test_half(self):
        same = ((0, 1, 0), (0, 0, 1))
        last = (0, 0, 0, 1)
        self.assertEqual(system_of(HALF), System(tuple(("a" + WORD[at], 2) for at in range(6)), (
            (0, 0, ((-2, 1, 0),), 0, ((1, same),), last),
            (0, 0, ((1, -1, 0),), 0, ((4, same),), last),
            (1, 0, (), 1, ((2, same),), last),
            (2, 0, (), 0, ((3, ((-2, 1, 0), (0, 0, 1))),), last),
            (3, 0, (), 0, ((0, ((0, 1, 0), (1, 0, 1))),), last),
            (4, 0, (), 0, (), (0, 0, 1)),
            (5, 0, (), 0, (), (0, 0, 0))), ((0, 1, 0), (0, 0, 1), (0, 0, -1))))
        self.assertEqual(full_inputs(HALF, (7,)), (7, 0))

    def test_asks(self):
        same, last = ((0, 1, 0), (0, 0, 1)), (0, 0, 0, 1)
        wide = tuple(tuple(1 if at == place + 1 else 0 for at in range(5)) for place in range(4))
        self.assertEqual(system_of(ASKS), System(
            tuple(("a" + WORD[at], 2 if at < 6 else 4) for at in range(10)), (
                (0, 1, ((-1, 0, 0, 1), (0, 1, 0, -1)), 0, ((1, ((0, 1, 0, 0), (0, 0, 0, 1))),), (0, 0, 0, 0, 1)),
                (1, 0, (), 0, ((4, same),), last),
                (1, 0, (), 0, ((2, same),), last),
                (1, 0, (), 0, ((3, same),), last),
                (2, 0, (), 3, ((4, same),), last),
                (3, 0, (), 0, ((6, ((0, 0, 1), (7, 0, 0), (0, 0, 0), (0, 0, 0))), (4, ((0, 0, 0, 1), (0, 0, 1, 0)))), (0, 0, 0, 0, 1)),
                (4, 0, (), 0, (), (0, 1, 0)),
                (5, 0, (), 0, (), (0, 0, 0)),
                (6, 0, (), 0, ((7, (wide[0], wide[1], (0, 1, 1, 0, 1), wide[3])),), (0, 0, 0, 0, 0, 1)),
                (7, 0, ((-5, 0, 0, 1, 0), (0, 1, 0, 0, 0)), 0, ((8, wide),), (0, 0, 0, 0, 0, 1)),
                (7, 0, ((4, 0, 0, -1, 0),), 0, ((9, wide),), (0, 0, 0, 0, 0, 1)),
                (7, 0, ((-5, 0, 0, 1, 0), (-1, -1, 0, 0, 0)), 0, ((9, wide),), (0, 0, 0, 0, 0, 1)),
                (8, 0, (), 0, (), (0, 0, 0, 1, 0)),
                (9, 0, (), 0, (), (0, 0, 0, 0, 0))),
            ((0, 0, 1), (0, 0, -1))))

    def test_where_places_lead(self):
        # Empty bodies, and the last statements of bodies within bodies.
        tests = ((0, 1),)
        made = system_of(one(("while", tests, (("if", tests, (), (("while", tests, ()),)),)), ("if", tests, (("pay", 1),), ()), ("while", tests, ())))
        goals = [(rule[0], [call[0] for call in rule[4]]) for rule in made.rules]
        self.assertEqual(goals, [(0, [1]), (0, [3]), (1, [0]), (1, [2]), (2, [2]), (2, [0]), (3, [4]), (3, [5]), (4, [5]),
                                 (5, [5]), (5, [6]), (6, [])])

    def test_names(self):
        made = system_of(one(*[("pay", 0)] * 39))
        names = [name for name, _ in made.functions]
        self.assertEqual((names[0], names[25], names[26], names[39]), ("aa", "az", "ba", "bn"))
        self.assertEqual(len(made.rules), 40)
        self.assertEqual([rule[3] for rule in system_of(one(("pay", 1000), ("give", (0, 0)))).rules], [1000, 0, 0])

    def test_bounds_of_systems(self):
        most = 100000
        four = ("while", ((most, -most),) * 4, ())
        made = system_of(one(*[four] * 15, *[("pay", 1000)] * 4, given=((most, most),) * 8))
        self.assertEqual((len(made.rules), len(made.start_rows)), (80, 8))
        self.assertEqual(made.rules[4][2][-1], (-most - 1, most))
        wide = ((("m", (), tuple("abcd"), ()), ("f", ("k",), tuple("abcd"), (("call", 1, ((0,) * 6,), 4),))), ())
        self.assertEqual(system_of(wide).start_rows[:3], ((0, 1, 0, 0, 0), (0, -1, 0, 0, 0), (0, 0, 1, 0, 0)))
        self.assertEqual(full_inputs(wide, ()), (0,) * 4)

    def test_too_many_numbers(self):
        loop = one(("while", ((0, 1),), (("any", 0, ()),)))
        steps = ((0, ()), (2, (5,)))
        self.assertEqual(outside_of(loop, (0,), steps * 1000), (5,) * 1000)
        self.assertEqual(spoken(loop, (0,), (5,) * 1000, 2000), ("most", None, 0, 2000))
        asks = one(("any", 0, ()), ("call", 0, ((0, 1),), None))
        steps = ((0, (3,)), (1, ()))
        self.assertEqual(len(outside_of(asks, (0,), steps * 1000)), 1000)
        more = one(("any", 0, ()), ("any", 0, ()), ("any", 0, ()), ("call", 0, ((0, 1),), None))
        steps = ((0, (3,)), (1, (3,)), (2, (3,)), (3, ()))
        self.assertEqual(len(outside_of(more, (0,), (steps * 500)[:1332])), 999)
        self.assertEqual(len(outside_of(more, (0,), (steps * 500)[:1333])), 1000)
        self.refuses(TooMany, outside_of, more, (0,), (steps * 500)[:1334], keeps={"limit": 1000})
        both = one(("choose", ((), ())), ("any", 0, ()), ("call", 0, ((0, 1),), None))
        steps = ((1, ()), (2, (3,)), (3, ()))
        self.assertEqual(outside_of(both, (0,), (steps * 500)[:1500]), (1, 3) * 500)
        self.refuses(TooMany, outside_of, both, (0,), (steps * 501)[:1501], keeps={"limit": 1000})

    def test_long_numbers(self):
        asks = one(("any", 0, ()), ("give", (1, 1)))
        self.assertEqual(spoken(asks, (LONG,), (-LONG,), 9), ("ended", 1 - LONG, 0, 2))
        self.assertEqual(choices_of(asks, (LONG,), (-LONG,), 9), ((0, (-LONG,)), (1, ())))


class BothMachinesTest(Refusing, unittest.TestCase):
    def setUp(self):
        self.draw = random.Random(77)

    def drawn(self):
        while True:
            made = draws.program(self.draw)
            inputs = tuple(self.draw.randint(-3, 4) for _ in made[0][0][1])
            if all(talk.value(form, inputs) >= 0 for form in made[1]):
                return made, inputs

    def test_step_by_step(self):
        seen = {}
        for _ in range(4000):
            made, inputs = self.drawn()
            outside = tuple(self.draw.randint(-4, 4) for _ in range(self.draw.randint(0, 12)))
            most = self.draw.choice([0, 5, 40])
            word, result, cost, costs = talk.spoken(made, inputs, outside, most)
            self.assertEqual(spoken(made, inputs, outside, most), (word, result, cost, len(costs)))
            self.look_at(made, inputs, outside, most, costs, word, result)
            seen[word] = seen.get(word, 0) + 1
        self.assertEqual(len(seen), 4)
        self.assertGreater(min(seen.values()), 50)

    def look_at(self, made, inputs, outside, most, costs, word, result):
        system, full = system_of(made), full_inputs(made, inputs)
        choices = choices_of(made, inputs, outside, most)
        self.assertEqual(len(choices), len(costs))
        standing = Standing(system, full)
        for choice, cost in zip(choices, costs):
            self.assertIsNone(standing.result)
            standing = standing.after(choice)
            self.assertEqual(standing.cost, cost)
        self.assertEqual((standing.result, standing.call is None), (result, word == "ended"))
        back = outside_of(made, inputs, choices)
        self.assertLessEqual(len(back), len(outside))
        self.assertEqual(choices_of(made, inputs, back, len(choices)), choices)

    def test_each_run_is_one_of_some_outside(self):
        many = 0
        for _ in range(600):
            made, inputs = self.drawn()
            system, full = system_of(made), full_inputs(made, inputs)
            for row in list(each_run(system, full, 2, 6))[:40]:
                outside = outside_of(made, inputs, row)
                self.assertEqual(choices_of(made, inputs, outside, len(row)), row)
                word, result, cost, steps = spoken(made, inputs, outside, len(row))
                standing = run(system, full, row)
                self.assertEqual((result, cost, steps), (standing.result, standing.cost, len(row)))
                many += 1
        self.assertGreater(many, 500)

    def test_one_rule_is_open(self):
        # Where nothing is asked, just one choice fits.
        for _ in range(200):
            made, inputs = self.drawn()
            if "any" not in repr(made) and "choose" not in repr(made):
                system, full = system_of(made), full_inputs(made, inputs)
                self.assertEqual(list(each_run(system, full, 5, 20)), [choices_of(made, inputs, (), 20)])
