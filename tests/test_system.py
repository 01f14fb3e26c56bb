import random
import unittest

from fallorflow.errors import InvalidKeep, InvalidNumber, InvalidSystem
from fallorflow.rules import system as module
from fallorflow.rules.machine import each_run, run
from fallorflow.rules.system import System, arguments, edge_rows, edges, empty_keep, goal, is_keep, parts, reached
from fallorflow.rules.system import rows_ahead, source, system_fault
from tests import draws, judging
from tests.values import SMALL, Refusing, near_lots, near_misses, strange

BIG = 1000000
STEP = (0, 1, ((0, 1, 0),), 2, ((1, ((0, 1, 0),)), (0, ((0, 1, 0, 0),))), (0, 0, 0, 0, 1))
TWO = ((("f", 1), ("g", 1)), (STEP, (1, 0, (), 0, (), (0, 0))), ((0, 1),))


def changed(value, place, part):
    return (*value[:place], part, *value[place + 1:])


class FaultsTest(Refusing, unittest.TestCase):
    def faults(self, functions, rules, given, expected):
        self.assertEqual(system_fault(functions, rules, given), expected)
        if expected is None:
            self.assertEqual(System(functions, rules, given).rules, rules)
        else:
            self.refuses(InvalidSystem, System, functions, rules, given)

    def test_none(self):
        self.faults(*TWO, None)
        self.assertIsNone(system_fault(*TWO[:2]))
        self.faults((("f", 0),), (), (), None)
        self.faults((("abcdefgh", 5),), (), (), None)

    def test_functions(self):
        for value in [*strange(), (("f", 1),) * 41]:
            if not isinstance(value, tuple) or not value or len(value) > 40:
                self.faults(value, None, None, ("functions",))
        self.faults((), (), (), ("functions",))
        many = tuple((a + b, 0) for a in "abcdefg" for b in "abcdefg")
        self.faults(many[:40], (), (), None)
        self.faults(many[:41], (), (), ("functions",))
        for pair in [("", 0), ("abcdefghi", 0), ("F", 0), ("f1", 0), ("f", 6), ("f", -1), ("f", True), ("f", None), ["f", 0],
                     ("f",), ("f", 0, 0), (None, 0), ("a", 0), (("f",), 0), "fg", *strange()]:
            self.faults((("a", 0), pair), None, None, ("functions", 1))
        self.faults((("a", 0), ("b", 0), ("b", 1), ("a", 0)), None, None, ("functions", 2))

    def test_rules(self):
        functions = TWO[0]
        for value in strange():
            if not isinstance(value, tuple):
                self.faults(functions, value, None, ("rules",))
        quiet = (1, 0, (), 0, (), (0, 0))
        self.faults(functions, (quiet,) * 80, (), None)
        self.faults(functions, (quiet,) * 81, (), ("rules",))
        for value in [*strange(), list(quiet), quiet[:5], (*quiet, 0)]:
            self.faults(functions, (quiet, value, None), None, ("rules", 1, "rule"))

    def test_parts_of_rules(self):
        wrong = {
            "function": [-1, 2, None, True, "0", (0,), *strange()],
            "unknowns": [-1, 3, None, True, *strange()],
            "guard": [((0, 1, 0),) * 9, ((0, 1),), ((0, 1, 0, 0),), ((0, BIG + 1, 0),), ((0, -BIG - 1, 0),), [(0, 1, 0)],
                      *near_lots(((0, 1, 0),)), *[value for value in strange() if value != ()]],
            "cost": [-1, 1001, None, True, *strange()],
            "calls": [STEP[4] * 2, ((2, ()),), ((0, ()),), ((0, ((0, 1, 0),) * 2),), ((0, ((0, 1),)),), ((0, ((0, 1, 0, 0),)),),
                      (STEP[4][1],), ((0, [(0, 1, 0)]),), ([0, ((0, 1, 0),)],), ((True, ((0, 1, 0),)),), ((0, ((0, BIG + 1, 0),)),),
                      ((0, ((0, 1, 0),), 1),), list(STEP[4]), *[value for value in strange() if value != ()]],
            "result": [(0, 0, 0, 0), (0,) * 6, (0, 0, 0, 0, BIG + 1), *strange(), *near_misses(STEP[5])],
        }
        for place, part in enumerate(["function", "unknowns", "guard", "cost", "calls", "result"]):
            for value in wrong[part]:
                rule = changed(STEP, place, value)
                self.faults(TWO[0], (STEP, rule), None, ("rules", 1, part))
                # The first part that is wrong is told.
                if place < 5:
                    self.faults(TWO[0], (changed(rule, place + 1, None), None), None, ("rules", 0, part))

    def test_parts_at_their_bounds(self):
        wide = (0, 2, ((BIG, -BIG, 0, 1),) * 8, 1000, (), (BIG, 0, 0, -BIG))
        self.faults((("f", 1),), (wide,), ((BIG, -BIG),) * 8, None)
        self.faults((("f", 5),), ((0, 2, (), 0, ((0, ((0,) * 8,) * 5), (0, ((0,) * 9,) * 5)), (0,) * 10),), (), None)

    def test_many_calls(self):
        functions = (("f", 0), ("g", 2))
        for count, expected in [(0, None), (1, None), (2, None), (3, ("rules", 0, "calls")), (9, ("rules", 0, "calls"))]:
            rule = (0, 0, (), 0, ((0, ()),) * count, (0,) * (count + 1))
            self.faults(functions, (rule,), (), expected)

    def test_given(self):
        for value in [*strange(), ((0, 1),) * 9]:
            if not isinstance(value, tuple) or len(value) > 8:
                self.faults(*TWO[:2], value, ("given",))
        for row in [*strange(), *near_misses((0, 1)), (0,), (0, 1, 0), (BIG + 1, 0), (0, -BIG - 1)]:
            self.faults(*TWO[:2], ((0, 1), row), ("given", 1))

    def test_the_sequence(self):
        self.assertEqual(system_fault((("f", 1), None), None, None), ("functions", 1))
        self.assertEqual(system_fault((("f", 1),), None, None), ("rules",))
        self.assertEqual(system_fault((("f", 1),), (None,), None), ("rules", 0, "rule"))
        self.assertEqual(system_fault((("f", 1),), (), None), ("given",))


class SystemTest(Refusing, unittest.TestCase):
    def test_constants(self):
        names = ["FUNCTIONS", "RULES", "PARAMETERS", "UNKNOWNS", "CALLS", "GUARD", "COST", "FACTOR", "KEPT"]
        found = [getattr(module, "MAX_" + name) for name in names]
        self.assertEqual(found, [40, 80, 5, 2, 2, 8, 1000, 1000000, 12])

    def test_properties(self):
        made = System(*TWO)
        self.assertEqual((made.functions, made.rules, made.start_rows), TWO)
        self.assertEqual(System(*TWO[:2]).start_rows, ())
        for name in ("functions", "rules", "start_rows"):
            with self.assertRaises(AttributeError):
                setattr(made, name, ())
            self.assertIn(name, vars(System))

    def test_equal(self):
        made = System(*TWO)
        self.is_just(True, made == System(*TWO))
        self.is_just(False, made != System(*TWO))
        for other in [System(*TWO[:2]), System(TWO[0], TWO[1][1:], TWO[2]), System((("f", 1), ("h", 1)), *TWO[1:]), *strange()]:
            self.is_just(False, made == other)
            self.is_just(True, made != other)
            self.is_just(True, made in [other, System(*TWO)])

    def test_text(self):
        self.assertEqual(str(System(*TWO)), "system of 2 functions, 2 rules")
        self.assertEqual(str(System((("f", 0),), ())), "system of 1 functions, 0 rules")

    def test_operators(self):
        made = System(*TWO)
        for call in (lambda: made + made, lambda: made < made, lambda: iter(made), lambda: len(made), lambda: 1 in made,
                     lambda: made[0]):
            self.assertRaises(TypeError, call)


class EdgesTest(Refusing, unittest.TestCase):
    def setUp(self):
        self.draw = random.Random(5)

    def test_edges(self):
        made = System(*TWO)
        self.assertEqual(edges(made), ((0, 0), (0, 1)))
        self.assertEqual([(source(made, edge), goal(made, edge)) for edge in edges(made)], [(0, 1), (0, 0)])
        self.assertEqual([arguments(made, edge) for edge in edges(made)], [((0, 1, 0),), ((0, 1, 0, 0),)])
        self.assertEqual(edges(System((("f", 0),), ())), ())

    def test_errors(self):
        made = System(*TWO)
        for value in strange():
            if not isinstance(value, System):
                self.refuses(InvalidSystem, edges, value)
                for call in (source, goal, arguments, parts, reached, is_keep):
                    self.refuses(InvalidSystem, call, value, None)
                self.refuses(InvalidSystem, empty_keep, value)
        for edge in [(0, 2), (2, 0), (1, 0), (-1, 0), (0, -1), (False, 0), (0, True), [0, 0], (0,), (0, 0, 0), None, *strange()]:
            for call in (source, goal, arguments):
                self.refuses(InvalidSystem, call, made, edge)
            self.refuses(InvalidSystem, edge_rows, made, empty_keep(made), edge)
            self.refuses(InvalidSystem, parts, made, (edge,))
        for lot in [((0, 1), (0, 0)), ((0, 0), (0, 0)), [(0, 0)], (0, 0), {(0, 0): 1}, *strange()]:
            if lot != ():
                self.refuses(InvalidSystem, parts, made, lot)
                self.refuses(InvalidSystem, reached, made, lot)

    def test_parts(self):
        flow = System((("a", 0), ("b", 0), ("c", 0), ("d", 0)), tuple(
            (here, 0, (), 0, tuple((there, ()) for there in lot), (0,) * (len(lot) + 1))
            for here, lot in [(0, (1, 2)), (1, (0,)), (2, (3, 2)), (3, ()), (1, (3,))]))
        self.assertEqual(edges(flow), ((0, 0), (0, 1), (1, 0), (2, 0), (2, 1), (4, 0)))
        self.assertEqual(parts(flow, edges(flow)), ((((0, 0), (1, 0)), ((2, 1),)), ((0, 1), (2, 0), (4, 0))))
        self.assertEqual(parts(flow, ((0, 0), (2, 1))), ((((2, 1),),), ((0, 0),)))
        self.assertEqual(parts(flow, ()), ((), ()))
        self.assertEqual(reached(flow, ((0, 0), (2, 0), (4, 0))), (0, 1, 3))
        self.assertEqual(reached(flow, edges(flow)), (0, 1, 2, 3))
        self.assertEqual(reached(flow, ((2, 0),)), (0,))

    def ring_ways(self, made, lot):
        """From each edge those that rows of edges lead to: by lengthening rows, till there is nothing new."""
        ways = {(one, other) for one in lot for other in lot if goal(made, one) == source(made, other)}
        while True:
            more = {(one, last) for one, other in ways for first, last in ways if other == first}
            if more <= ways:
                return ways
            ways |= more

    def test_drawn_parts(self):
        rings = 0
        for _ in range(300):
            made = draws.system(self.draw, 5, 7)
            lot = tuple(edge for edge in edges(made) if self.draw.random() < 0.8)
            ways = self.ring_ways(made, lot)
            components, through = parts(made, lot)
            self.assertEqual(through, tuple(edge for edge in lot if (edge, edge) not in ways))
            expected = []
            for edge in lot:
                if (edge, edge) in ways:
                    found = tuple(other for other in lot if (edge, other) in ways and (other, edge) in ways)
                    if found not in expected:
                        expected.append(found)
            self.assertEqual(components, tuple(expected))
            rings += len(components)
            places = {0}
            for _ in made.functions:
                places |= {goal(made, edge) for edge in lot if source(made, edge) in places}
            self.assertEqual(reached(made, lot), tuple(sorted(places)))
        self.assertGreater(rings, 100)

    def test_what_is_not_true(self):
        # [3.7], one by one.
        half = System((("f", 0), ("g", 0)), ((0, 1, ((-1, 2), (1, -2)), 0, ((1, ()),), (0, 0, 0)), (1, 0, (), 0, ((0, ()),), (0, 0))))
        self.is_just(True, judging.is_point(1, edge_rows(half, empty_keep(half), (0, 0))[1], (2, 1)))
        self.assertEqual(list(each_run(half, (), 5, 9)), [()])
        components, _ = parts(half, edges(half))
        self.assertEqual([source(half, edge) for edge in components[0]], [0, 1])
        quiet = System((("f", 0),), ((0, 0, (), 0, (), (7,)),))
        self.assertEqual((parts(quiet, edges(quiet)), run(quiet, (), ((0, ()),)).result), (((), ()), 7))

    def test_many_edges(self):
        functions = tuple((a + b, 0) for a in "abcde" for b in "abcdefgh")
        rules = tuple((here % 40, 0, (), 0, (((here + 1) % 40, ()), (here * 7 % 40, ())), (0, 0, 0)) for here in range(80))
        made = System(functions, rules)
        self.assertEqual(parts(made, edges(made)), ((edges(made),), ()))


class KeepsTest(Refusing, unittest.TestCase):
    def setUp(self):
        self.draw = random.Random(6)

    def test_is_keep(self):
        made = System(*TWO)
        self.is_just(True, is_keep(made, empty_keep(made)))
        self.assertEqual(empty_keep(made), (((), ()), ((), ())))
        long = 10 ** 60 - 1
        self.is_just(True, is_keep(made, ((((long, -long),) * 12, ()), ((), ((0, 1, long),) * 12))))
        self.is_just(False, is_keep(made, ((((long, -long),) * 13, ()), ((), ()))))
        self.is_just(False, is_keep(made, (((), ()), (((0, 1, 1),) * 13, ()))))
        right = ((((0, 1),), ()), ((), ((0, 1, 1),)))
        self.is_just(True, is_keep(made, right))
        wrong = [*strange(), list(right), right[:1], (*right, ()), (right[0], right[0]), (right[1], right[1]), (right[0][:1], right[1])]
        for lot in near_lots(((0, 1),)):
            wrong.append(((lot, ()), right[1]))
            wrong.append((((), lot), right[1]))
        for lot in near_lots(((0, 1, 1),)):
            wrong.append((right[0], ((), lot)))
        wrong.extend([(list(right[0]), right[1]), (right[0], {0: (), 1: ()}), (right[0], (*right[1], ()))])
        for value in wrong:
            self.is_just(False, is_keep(made, value), repr(value)[:200])
            self.refuses(InvalidKeep, rows_ahead, made, value, None, None)
            self.refuses(InvalidKeep, edge_rows, made, value, None)

    def test_rows_ahead_errors(self):
        made = System(*TWO)
        self.refuses(InvalidSystem, rows_ahead, None, None, None, None)
        self.refuses(InvalidSystem, edge_rows, None, None, None)
        for number in [-1, 2, *strange()]:
            self.refuses(InvalidNumber, rows_ahead, made, empty_keep(made), number, None, keeps={"given": number})
        for number in [-1, 3, *strange()]:
            self.refuses(InvalidNumber, rows_ahead, made, empty_keep(made), 0, number, keeps={"given": number})
        self.refuses(InvalidNumber, rows_ahead, made, empty_keep(made), 1, 1, keeps={"given": 1})

    def test_rows_ahead(self):
        made = System(*TWO)
        keep = ((((7, 1),), ((8, 2),)), (((1, 2, 3),), ((4, 5, 6), (0, 0, 1))))
        self.assertEqual(rows_ahead(made, keep, 0, 0), (2, ((7, 1, 0), (0, 1, 0))))
        self.assertEqual(rows_ahead(made, keep, 0, 1), (3, ((7, 1, 0, 0), (0, 1, 0, 0), (4, 5, 0, 6), (0, 0, 0, 1))))
        last = (4, ((7, 1, 0, 0, 0), (0, 1, 0, 0, 0), (4, 5, 0, 6, 0), (0, 0, 0, 1, 0), (1, 2, 0, 0, 3)))
        self.assertEqual(rows_ahead(made, keep, 0, 2), last)
        self.assertEqual(edge_rows(made, keep, (0, 1)), rows_ahead(made, keep, 0, 1))
        self.assertEqual(rows_ahead(made, keep, 1, 0), (1, ((8, 2),)))

    def test_drawn_rows_ahead(self):
        for _ in range(200):
            made = draws.system(self.draw)
            keep = draws.keep(self.draw, made)
            for index, rule in enumerate(made.rules):
                function, unknowns, guard, _, calls, _ = rule
                for number in range(len(calls) + 1):
                    many, rows = rows_ahead(made, keep, index, number)
                    self.assertEqual(many, made.functions[function][1] + unknowns + number)
                    self.assertTrue(all(len(row) == many + 1 for row in rows))
                    values = [self.draw.randint(-9, 9) for _ in range(many)]
                    expected = self.values_ahead(made, keep, rule, number, values)
                    self.assertEqual([judging.at(row, [1, *values]) for row in rows], expected)

    def values_ahead(self, made, keep, rule, number, values):
        function, unknowns, guard, _, calls, _ = rule
        known = made.functions[function][1] + unknowns
        found = [judging.at(row, [1, *values]) for row in (*keep[0][function], *guard)]
        for place, (callee, told) in enumerate(calls[:number]):
            inner = [judging.at(form, [1, *values[:known + place]]) for form in told]
            found.extend(judging.at(row, [1, *inner, values[known + place]]) for row in keep[1][callee])
        return found

    def test_most_rows(self):
        functions = (("f", 5),)
        wide = (0, 2, ((0,) * 8,) * 8, 0, ((0, ((1,) * 8,) * 5), (0, ((1,) * 9,) * 5)), (0,) * 10)
        made = System(functions, (wide,))
        long = 10 ** 60 - 1
        keep = ((((long,) * 6,) * 12,), (((long,) * 7,) * 12,))
        many, rows = rows_ahead(made, keep, 0, 2)
        self.assertEqual((many, len(rows)), (9, 12 + 8 + 24))

    def test_equal_calls(self):
        made = System(*TWO)
        keep = ((((7, 1),), ((8, 2),)), (((1, 2, 3),), ()))
        for call in (lambda: edges(made), lambda: parts(made, edges(made)), lambda: reached(made, edges(made)),
                     lambda: empty_keep(made), lambda: rows_ahead(made, keep, 0, 2), lambda: arguments(made, (0, 1))):
            self.assertEqual(call(), call())
        wrong = [[(0, 0)], {0: 1}]
        self.refuses(InvalidSystem, parts, made, wrong)
        self.refuses(InvalidKeep, edge_rows, made, wrong, (0, 0))
        self.assertEqual((wrong, system_fault(wrong, wrong, wrong)), ([[(0, 0)], {0: 1}], ("functions",)))

    def test_small(self):
        self.assertEqual(rows_ahead(SMALL, empty_keep(SMALL), 0, 1), (2, ((-1, 1, 0),)))
