import random
import unittest

from fallorflow.errors import InvalidKeep, InvalidNumber, InvalidSystem, TooMany
from fallorflow.hold.closed import cut, edge_opens, is_edge_opening, is_rule_opening, met, open_edges, rule_opens, settled
from fallorflow.hold.keeps import greatest, inductive, usual
from fallorflow.rules.machine import each_run
from fallorflow.rules.system import System, edges, empty_keep
from tests import draws, holding, judging, walks
from tests.test_keeps import kept, likely, wide
from tests.values import SMALL, Refusing, near_misses, strange

LONG = 10 ** 80
# f(x) with x >= 0: a rule for x below 0, one that calls g at x >= 1, g first calls h, whose results are below 0.
FLOW = System((("f", 1), ("g", 1), ("h", 1), ("k", 0)), (
    (0, 0, ((-1, -1),), 1, ((1, ((0, 1),)),), (0, 0, 0)),
    (0, 0, ((-1, 1),), 1, ((1, ((0, 1),)), (2, ((0, 0, 1),))), (0, 0, 0, 0)),
    (1, 0, (), 0, ((2, ((0, 1),)), (3, ())), (0, 0, 1, 0)),
    (2, 0, (), 0, (), (-1, 0)),
    (3, 0, (), 0, (), (0,)),
), ((0, 1),))
HELD = ((((0, 1),), (), (), ()), ((), ((0, 0, 1), (-1, 0, -1)), ((-1, 0, -1),), ()))


class Closed(Refusing, unittest.TestCase):
    def setUp(self):
        self.draw = random.Random(51)

    def rows_of(self, made, keep, rule, number=0):
        function, unknowns = made.rules[rule][:2]
        many = made.functions[function][1] + unknowns + number
        return many, holding.forms_of(many, lambda values: holding.told(made, keep, rule, number, values))

    def look_at(self, many, rows, found, judge):
        word, told = found
        self.assertIn(word, ("open", "closed"))
        check = judging.is_point if word == "open" else judging.is_bar
        self.assertTrue(check(many, rows, told))
        other = "open" if word == "closed" else "closed"
        longer = tuple(LONG * number for number in told)
        self.is_just(True, judge(found))
        self.is_just(True, judge((word, longer)))
        for bent in near_misses(told):
            if isinstance(bent, tuple) and all(part.__class__ is int for part in bent):
                self.is_just(check(many, rows, bent) and len(bent) == len(told), judge((word, bent)))
            else:
                self.is_just(False, judge((word, bent)))
        for value in [(other, told), (word,), [word, told], (word, told, 0), told, (None, told), ((word,), told)]:
            self.is_just(False, judge(value))
        return word


class OpensTest(Closed):
    def test_drawn(self):
        seen = {"open": 0, "closed": 0}
        for _ in range(150):
            made = draws.system(self.draw)
            keep = self.draw.choice([kept, likely])(self.draw, made)
            for rule in range(len(made.rules)):
                found = rule_opens(made, keep, rule)
                self.assertEqual(found, rule_opens(made, keep, rule))
                seen[self.look_at(*self.rows_of(made, keep, rule), found, lambda value: is_rule_opening(made, keep, rule, value))] += 1
            for edge in edges(made):
                found = edge_opens(made, keep, edge)
                seen[self.look_at(*self.rows_of(made, keep, *edge), found, lambda value: is_edge_opening(made, keep, edge, value))] += 1
        self.assertGreater(min(seen.values()), 100)

    def test_flow(self):
        none = empty_keep(FLOW)
        self.assertEqual([rule_opens(FLOW, HELD, rule)[0] for rule in range(5)], ["closed", "open", "open", "open", "open"])
        self.assertEqual([rule_opens(FLOW, none, rule)[0] for rule in range(5)], ["open"] * 5)
        # Results of a rule's own calls close no rule, but the call edges behind them.
        self.assertEqual([edge_opens(FLOW, HELD, edge)[0] for edge in edges(FLOW)], ["closed", "open", "closed", "open", "open"])
        self.assertEqual(open_edges(FLOW, HELD), ((1, 0), (2, 0), (2, 1)))
        self.assertEqual(open_edges(FLOW, none), edges(FLOW))
        self.assertEqual((met(FLOW, HELD), met(FLOW, none)), ((0, 1, 2, 3), (0, 1, 2, 3)))
        self.assertEqual(cut(FLOW, HELD), (System(FLOW.functions, FLOW.rules[1:], FLOW.start_rows), (1, 2, 3, 4)))
        self.assertEqual(cut(FLOW, none), (FLOW, (0, 1, 2, 3, 4)))

    def test_many_rows(self):
        # Entry rows, guard and result rows of both calls: more than forty.
        row = (0, 1, 1)
        many = System((("f", 1),), ((0, 1, (row,) * 8, 0, ((0, ((0, 1, 1),)), (0, ((0, 1, 0, 0),)), ), (0,) * 5),))
        keep = ((((0, 1),) * 12,), ((row,) * 12,))
        self.assertEqual(edge_opens(many, keep, (0, 1))[0], "open")
        self.is_just(True, is_edge_opening(many, keep, (0, 1), ("open", (1, 0, 0, 0))))
        shut = ((((0, 1),) * 11 + ((-1, 0),),), ((row,) * 12,))
        self.is_just(True, is_edge_opening(many, shut, (0, 1), ("closed", (0,) * 11 + (1,) + (0,) * 20)))
        self.is_just(True, is_rule_opening(many, shut, 0, ("closed", (0,) * 11 + (LONG,) + (0,) * 8)))

    def test_errors(self):
        for value in strange():
            if not isinstance(value, System):
                for call in (rule_opens, edge_opens):
                    self.refuses(InvalidSystem, call, value, None, None)
                for call in (is_rule_opening, is_edge_opening):
                    self.refuses(InvalidSystem, call, value, None, None, None)
                for call in (open_edges, met, cut, settled):
                    self.refuses(InvalidSystem, call, value, None)
            for call in (rule_opens, edge_opens):
                self.refuses(InvalidKeep, call, SMALL, value, None)
            for call in (is_rule_opening, is_edge_opening):
                self.refuses(InvalidKeep, call, SMALL, value, None, None)
            for call in (open_edges, met, cut, settled):
                self.refuses(InvalidKeep, call, SMALL, value)
            self.refuses(InvalidNumber, rule_opens, SMALL, empty_keep(SMALL), value, keeps={"given": value})
            self.refuses(InvalidNumber, is_rule_opening, SMALL, empty_keep(SMALL), value, None, keeps={"given": value})
            self.refuses(InvalidSystem, edge_opens, SMALL, empty_keep(SMALL), value)
            self.refuses(InvalidSystem, is_edge_opening, SMALL, empty_keep(SMALL), value, None)
            self.is_just(False, is_rule_opening(SMALL, empty_keep(SMALL), 0, value))
            self.is_just(False, is_edge_opening(SMALL, empty_keep(SMALL), (0, 0), value))
        for number in (-1, 1):
            self.refuses(InvalidNumber, rule_opens, SMALL, empty_keep(SMALL), number, keeps={"given": number})
        for edge in [(0, 1), (1, 0), (0, True), [0, 0]]:
            self.refuses(InvalidSystem, edge_opens, SMALL, empty_keep(SMALL), edge)


class MetTest(Closed):
    def expected(self, made, keep):
        """The met functions and the open edges, by lengthening ways."""
        shut = {edge for edge in edges(made) if edge_opens(made, keep, edge)[0] == "closed"}
        first = (*made.start_rows, *keep[0][0])
        functions = {0} if self.has_point(made.functions[0][1], first) else set()
        for _ in made.functions:
            functions |= {made.rules[rule][4][number][0] for rule, number in edges(made)
                          if (rule, number) not in shut and made.rules[rule][0] in functions}
        lot = tuple(edge for edge in edges(made) if edge not in shut and made.rules[edge[0]][0] in functions)
        left = tuple(rule for rule in range(len(made.rules))
                     if made.rules[rule][0] in functions and rule_opens(made, keep, rule)[0] == "open")
        return tuple(sorted(functions)), lot, left

    def has_point(self, many, rows):
        made = System((("f", many),), ((0, 0, rows, 0, (), (0,) * (many + 1)),)) if len(rows) <= 8 else None
        return rule_opens(made, empty_keep(made), 0)[0] == "open"

    def test_drawn(self):
        fewer = 0
        for _ in range(200):
            made = draws.system(self.draw)
            keep = kept(self.draw, made)
            functions, lot, left = self.expected(made, keep)
            self.assertEqual((met(made, keep), open_edges(made, keep)), (functions, lot))
            small, indices = cut(made, keep)
            self.assertEqual((indices, small.rules), (left, tuple(made.rules[at] for at in left)))
            self.assertEqual((small.functions, small.start_rows), (made.functions, made.start_rows))
            fewer += len(left) < len(made.rules)
        self.assertGreater(fewer, 40)

    def test_a_closed_beginning(self):
        shut = System(FLOW.functions, FLOW.rules, ((-1, 0),))
        for made, keep in [(shut, empty_keep(shut)), (FLOW, ((((-5, -1),), (), (), ()), HELD[1])), (System(FLOW.functions, FLOW.rules, ((0, 1), (-1, -1))), HELD)]:
            self.assertEqual((met(made, keep), open_edges(made, keep), cut(made, keep)[1]), ((), (), ()))
            self.assertEqual(cut(made, keep)[0].rules, ())


class RunsTest(Closed):
    def runs(self, made):
        inputs = tuple(self.draw.randint(-2, 4) for _ in range(made.functions[0][1]))
        if all(judging.at(row, [1, *inputs]) >= 0 for row in made.start_rows):
            for choices in list(each_run(made, inputs, 1, 4))[:10]:
                yield inputs, choices[:self.draw.randint(0, len(choices))]
                yield inputs, choices

    def test_what_is_chosen(self):
        fewer = runs = 0
        for _ in range(200):
            made = draws.system(self.draw)
            keep = greatest(made, likely(self.draw, made))[0]
            functions, lot = met(made, keep), open_edges(made, keep)
            small, indices = cut(made, keep)
            places = {index: at for at, index in enumerate(indices)}
            for inputs, choices in self.runs(made):
                walk = walks.Walk(made, inputs, choices)
                for rule, _ in choices:
                    self.assertIn(rule, places)
                    self.assertEqual(rule_opens(made, keep, rule)[0], "open")
                for edge, _ in walk.made:
                    self.assertIn(0 if edge is None else made.rules[edge[0]][4][edge[1]][0], functions)
                    self.assertTrue(edge is None or edge in lot)
                other = walks.Walk(small, inputs, [(places[rule], told) for rule, told in choices])
                self.assertEqual((other.done, other.cost, other.result), (walk.done, walk.cost, walk.result))
                runs += 1
                if len(small.rules) < len(made.rules):
                    fewer += 1
                    found = set(each_run(small, inputs, 1, 3))
                    moved = {tuple((places[rule], told) for rule, told in row) for row in each_run(made, inputs, 1, 3)}
                    self.assertEqual(found, moved)
        self.assertGreater(min(fewer, runs), 60)

    def test_keeps_behind_a_cut(self):
        for _ in range(100):
            made = draws.system(self.draw)
            candidates = likely(self.draw, made)
            keep = greatest(made, candidates)[0]
            small = cut(made, keep)[0]
            self.assertEqual(inductive(small, keep)[0], "inductive")
            shut = tuple(rule for rule in range(len(made.rules)) if rule_opens(made, keep, rule)[0] == "closed")
            left = System(made.functions, tuple(told for at, told in enumerate(made.rules) if at not in shut), made.start_rows)
            self.assertEqual(greatest(left, candidates)[0], keep)

    def test_settled(self):
        grown = fewer = 0
        for _ in range(200):
            made = draws.system(self.draw)
            candidates = likely(self.draw, made)
            small, indices, keep = settled(made, candidates)
            self.assertEqual(small.rules, tuple(made.rules[at] for at in indices))
            self.assertEqual((small.functions, small.start_rows), (made.functions, made.start_rows))
            self.assertEqual(greatest(small, candidates)[0], keep)
            self.assertEqual(cut(small, keep), (small, tuple(range(len(small.rules)))))
            now, left = made, tuple(range(len(made.rules)))
            for _ in range(len(made.rules) + 1):
                now, some = cut(now, greatest(now, candidates)[0])
                left = tuple(left[at] for at in some)
            self.assertEqual((now, left), (small, indices))
            fewer += len(indices) < len(made.rules)
            grown += keep != greatest(made, candidates)[0]
            for inputs, choices in self.runs(made):
                for (edge, values) in walks.Walk(made, inputs, choices).made:
                    function = 0 if edge is None else made.rules[edge[0]][4][edge[1]][0]
                    self.assertTrue(all(judging.at(row, [1, *values]) >= 0 for row in keep[0][function]))
        self.assertGreater(fewer, 60)
        self.assertGreater(grown, 5)

    def test_it_can_grow(self):
        # g is never met; by its rule the entry row of f does not follow.
        made = System((("f", 1), ("g", 1)), ((0, 0, ((-1, 1),), 0, ((0, ((-1, 1),)),), (0, 0, 0)), (1, 0, (), 0, ((0, ((0, 1),)),), (0, 0, 0))), ((0, 1),))
        candidates = ((((0, 1),), ()), ((), ()))
        self.assertEqual(greatest(made, candidates)[0], empty_keep(made))
        self.assertEqual(settled(made, candidates), (System(made.functions, made.rules[:1], made.start_rows), (0,), candidates))

    def test_settled_errors(self):
        self.refuses(InvalidKeep, settled, SMALL, ((((0, 1), (0, 1)),), ((),)))
        system, keep = wide(5, 1)
        self.refuses(TooMany, settled, system, keep, keeps={"limit": 400})
        self.assertEqual(settled(SMALL, usual(SMALL)), settled(SMALL, usual(SMALL)))

    def test_what_is_not_true(self):
        # [7.4]: a point of a half opens a rule that no run chooses.
        half = System((("f", 1),), ((0, 0, ((-1, 2), (1, -2)), 0, (), (0, 0)),))
        self.assertEqual(rule_opens(half, empty_keep(half), 0)[0], "open")
        self.assertEqual({run for number in range(-3, 4) for run in each_run(half, (number,), 0, 3)}, {()})
        self.assertEqual([rule_opens(FLOW, HELD, 1)[0], edge_opens(FLOW, HELD, (1, 1))[0]], ["open", "closed"])
        made = System((("f", 1), ("g", 1)), ((1, 0, (), 0, ((0, ((0, 1),)),), (0, 0, 0)),), ((0, 1),))
        keep = settled(made, ((((0, 1),), ()), ((), ())))[2]
        self.assertEqual(inductive(made, keep)[0], "not")


if __name__ == "__main__":
    unittest.main()
