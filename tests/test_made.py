import random
import unittest

from fallorflow.errors import InvalidOperation, InvalidSystem
from fallorflow.rules.machine import each_run
from fallorflow.rules.made import beside, permuted, without
from fallorflow.rules.system import System
from tests import draws
from tests.values import SMALL, Refusing, strange

CALL = (0, 0, (), 1, ((1, ((0, 1),)), (2, ())), (0, 0, 0, 1))
THREE = System((("a", 1), ("b", 1), ("c", 0)), (CALL, (2, 1, ((0, 1),), 0, ((0, ((0, 1),)),), (0, 1, 2)), (1, 0, (), 3, (), (4, 5))),
               ((3, 1),))


class MadeTest(Refusing, unittest.TestCase):
    def test_without(self):
        self.assertEqual(without(THREE, ()), THREE)
        self.assertEqual(without(THREE, (1,)), System(THREE.functions, (THREE.rules[0], THREE.rules[2]), ((3, 1),)))
        self.assertEqual(without(THREE, (0, 1, 2)), System(THREE.functions, (), ((3, 1),)))

    def test_permuted(self):
        self.assertEqual(permuted(THREE, (0, 1, 2)), THREE)
        swapped = permuted(THREE, (0, 2, 1))
        self.assertEqual(swapped.functions, (("a", 1), ("c", 0), ("b", 1)))
        self.assertEqual(swapped.rules, (
            (0, 0, (), 1, ((2, ((0, 1),)), (1, ())), (0, 0, 0, 1)), (1, *THREE.rules[1][1:]), (2, *THREE.rules[2][1:])))
        self.assertEqual(swapped.start_rows, ((3, 1),))
        four = System((("a", 0), ("b", 1), ("c", 2), ("d", 3)), ((2, 0, (), 0, ((3, ((0, 1, 0),) * 3),), (0, 0, 0, 0)),))
        turned = permuted(four, (0, 3, 1, 2))
        self.assertEqual(turned.functions, (("a", 0), ("d", 3), ("b", 1), ("c", 2)))
        self.assertEqual((turned.rules[0][0], turned.rules[0][4][0][0]), (3, 1))

    def test_beside(self):
        both = beside(THREE, SMALL)
        self.assertEqual(both.functions, (*THREE.functions, ("f", 1)))
        self.assertEqual(both.rules, (*THREE.rules, (3, 0, ((-1, 1),), 1, ((3, ((-1, 1),)),), (0, 0, 0))))
        self.assertEqual(both.start_rows, THREE.start_rows)
        self.assertEqual(beside(SMALL, THREE).start_rows, ())

    def test_beside_bounds(self):
        many = tuple((a + b, 0) for a in "abcdefgh" for b in "abcde")
        quiet = (0, 0, (), 0, (), (0,))
        self.assertEqual(len(beside(System(many[:39], ()), System(many[39:], ())).functions), 40)
        self.refuses(InvalidOperation, beside, System(many, ()), System((("x", 0),), ()))
        self.refuses(InvalidOperation, beside, THREE, THREE)
        self.refuses(InvalidOperation, beside, THREE, System((("x", 0), ("c", 2)), ()))
        one, other = System((("x", 0),), (quiet,) * 40), System((("y", 0),), (quiet,) * 41)
        self.assertEqual(len(beside(one, System((("y", 0),), (quiet,) * 40)).rules), 80)
        self.refuses(InvalidOperation, beside, one, other)

    def test_errors(self):
        for value in strange():
            if not isinstance(value, System):
                self.refuses(InvalidSystem, without, value, None)
                self.refuses(InvalidSystem, permuted, value, None)
                self.refuses(InvalidSystem, beside, value, None)
                self.refuses(InvalidSystem, beside, THREE, value)
        for value in [(3,), (-1,), (1, 0), (1, 1), (True,), (None,), [0], {0: 0}, 0, *strange()]:
            if value != ():
                self.refuses(InvalidOperation, without, THREE, value)
        for value in [(0, 1), (0, 1, 2, 3), (1, 0, 2), (0, 1, 1), (0, 1, 3), (0, -1, 1), (0, True, 2), (False, 1, 2), [0, 1, 2],
                      (0, None, 2), {0: 0, 1: 1, 2: 2}, *strange()]:
            self.refuses(InvalidOperation, permuted, THREE, value)


class RunsOfMadeTest(Refusing, unittest.TestCase):
    def setUp(self):
        self.draw = random.Random(31)

    def drawn(self):
        """A drawn system and inputs at which its start rows hold."""
        while True:
            made = draws.system(self.draw)
            inputs = tuple(self.draw.randint(-3, 3) for _ in range(made.functions[0][1]))
            if all(row[0] + sum(a * b for a, b in zip(row[1:], inputs)) >= 0 for row in made.start_rows):
                return made, inputs

    def runs(self, made, inputs, most=4):
        return list(each_run(made, inputs, 1, most))

    def all_beginnings(self, made, inputs):
        return {row[:length] for row in self.runs(made, inputs) for length in range(len(row) + 1)}

    def test_runs(self):
        for _ in range(150):
            made, inputs = self.drawn()
            order = (0, *self.draw.sample(range(1, len(made.functions)), len(made.functions) - 1))
            self.assertEqual(self.runs(permuted(made, order), inputs), self.runs(made, inputs))
            names = tuple((name + "z", many) for (name, _), (_, many) in zip((("x", 0), ("y", 0), ("w", 0)), draws.system(self.draw).functions))
            other = System(names, tuple(draws.rule(self.draw, names) for _ in range(3)))
            self.assertEqual(self.runs(beside(made, other), inputs), self.runs(made, inputs))
            cut = tuple(index for index in range(len(made.rules)) if self.draw.random() < 0.3)
            left = [index for index in range(len(made.rules)) if index not in cut]
            expected = {row for row in self.all_beginnings(made, inputs) if not any(rule in cut for rule, _ in row)}
            found = {tuple((left[rule], unknowns) for rule, unknowns in row)
                     for row in self.all_beginnings(without(made, cut), inputs)}
            self.assertEqual(found, expected)
