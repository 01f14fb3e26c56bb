"""How long the greatest cases take that the bounds let, from bounds to the bench, each told on a line of its own."""
import random
import unittest

from fallorflow.bounds.bounds import bound, is_refusal, is_sizing, sizing, steps_at_most
from fallorflow.check.answers import bounding, costing, ending, gone_round, priced, survey
from fallorflow.check.checker import takes
from fallorflow.errors import TooMany
from fallorflow.ever.counters import is_shelf_tree, is_turns, turns_or_shelves, walk_of
from fallorflow.ever.rings import ever_choices, ever_or_break, first_break, is_ever, round_of, rounds_from
from fallorflow.exact.costs import entered_calls, exact_cost, is_round, is_table
from fallorflow.fall.trees import tree_or_stay
from fallorflow.hold.keeps import duties, usual
from fallorflow.house.bench import Bench
from fallorflow.house.edits import led_on
from fallorflow.house.report import broken_at
from fallorflow.rules.system import System, edges, empty_keep
from tests.bounding import unit
from tests.test_counters import move
from tests.test_time import LONG, NAMES, Timed, circle, dense

COST = ("cost",)


def wide(draw, size):
    """40 functions of five parameters, 80 rules with two unknowns, eight rows and two calls."""
    rules = []
    for index in range(80):
        calls = []
        for number in range(2):
            calls.append((draw.randrange(40), tuple(tuple(draw.randint(-size, size) for _ in range(8 + number)) for _ in range(5))))
        guard = tuple((draw.randint(1, size), *[draw.randint(-size, size) for _ in range(7)]) for _ in range(8))
        rules.append((index % 40, 2, guard, 1, tuple(calls), (0,) * 10))
    return System(tuple((NAMES[at], 5) for at in range(40)), tuple(rules))


def deep_tree(lot, form):
    """A tree of closed edges of one function, one edge in each branch."""
    tree = ()
    for place in reversed(range(len(lot))):
        left = lot[place:]
        tree = ((left, ((left[0], ((form,), ((0, 1, 1),) * (len(left) + 1))),), tree),)
    return tree


def lowering(many, levels):
    """A function of five parameters, the rules of which lower one of them each; those behind it change."""
    rules = []
    for index in range(many):
        level = index % levels
        told = [unit(at, 5) for at in range(level)] + [unit(level, 5, -1)] + [unit(at, 5, 1) for at in range(level + 1, 5)]
        rules.append((0, 0, (unit(level, 5, -1),), 1, ((0, tuple(told)),), (0,) * 7))
    return System((("f", 5),), tuple(rules), tuple(unit(at, 5) for at in range(5)))


class BoundsTest(Timed):
    def test_sizings(self):
        draw = random.Random(3)
        for size, kept in [(3, 3), (1000000, LONG)]:
            made = wide(draw, size)
            keep = tuple(tuple(tuple((draw.randint(1, kept), *[draw.randint(-kept, kept) for _ in range(5 + further)]) for _ in range(12)) for _ in range(40)) for further in (0, 1))
            found = self.timed(f"sizing, 160 edges, numbers to {len(str(kept))} digits", 60, lambda: sizing(made, keep))
            self.assertTrue(self.timed("its judge", 5, lambda: is_sizing(made, keep, found)))

    def test_bounds(self):
        for many, levels in [(80, 1), (80, 2), (80, 5)]:
            made = lowering(many, levels)
            none = empty_keep(made)
            tree, sizes = tree_or_stay(made, none, edges(made))[1], sizing(made, none)
            word, found = self.timed(f"bound of {many} edges, {levels} levels", 10, lambda: bound(made, none, tree, sizes, COST))
            if word == "refused":
                self.assertTrue(self.timed("judge of a refusal", 10, lambda: is_refusal(made, none, tree, sizes, COST, found)))
            self.timed("steps", 10, lambda: steps_at_most(made, none, tree, sizes, (9,) * 5))

    def test_many_members(self):
        # Five sizes, and turns of as many levels as let the polys grow.
        made = System((("f", 5),), tuple([(0, 0, ((-1, 0, 0, 0, 0, 0),), 1, ((0, tuple(unit(at, 5) for at in range(5))),), (0,) * 7)] * 80))
        tree = deep_tree(edges(made), (0, 1, 1, 1, 1, 1))
        none = empty_keep(made)
        sizes = sizing(made, none)
        seen = set()
        for at in (1, 3, 6, 79):
            def asked():
                try:
                    return bound(made, none, tree, sizes, ("turns", (at, 0)))[0]
                except TooMany:
                    return "many"
            seen.add(self.timed(f"turns {at} levels deep", 10, asked))
        self.assertEqual(seen, {"within", "many"})

    def test_deep_trees(self):
        made = System((("f", 1),), tuple([(0, 0, ((-1, 0),), 1, ((0, ((1, 1),)), (0, ((1, 1, 0),))), (0,) * 4)] * 80))
        none = empty_keep(made)
        tree, sizes = deep_tree(edges(made), (0, 0)), sizing(made, none)
        self.timed("a refusal, 160 levels", 10, lambda: bound(made, none, tree, sizes, COST))
        self.timed("steps, 160 levels", 10, lambda: steps_at_most(made, none, tree, sizes, (9,)))
        claim = ("taken out", made, none, edges(made))
        self.assertTrue(self.timed("takes, 160 levels", 10, lambda: takes(claim, tree)))
        other, led = self.timed("led on, 160 levels", 10, lambda: led_on(claim, tree, 40, (0, 1)))
        self.assertTrue(takes(other, led))

    def test_steps(self):
        # As many rounds as can be, at all levels.
        for levels in range(1, 6):
            made = lowering(levels, levels)
            none = empty_keep(made)
            tree, sizes = tree_or_stay(made, none, edges(made))[1], sizing(made, none)
            for size in (1, 40, 10 ** 59):
                self.timed(f"steps, {levels} levels from {size}", 5, lambda: steps_at_most(made, none, tree, sizes, (size,) * 5))


class EverTest(Timed):
    def test_rings(self):
        made = System((("f", 5),), ((0, 2, tuple((5, *[1] * 7) for _ in range(8)), 1, ((0, tuple(unit(at, 7, 1) for at in range(5))),), (0,) * 9),))
        ring = ((0, ((1000, 1, 1, 1, 1, 1), (-1000, 1, 1, 1, 1, 1))),) * 8
        self.assertEqual(len(self.timed("a round of 64 rows", 1, lambda: round_of(made, ring))[0]), 64)
        choices = ((0, (1, 1)),) * 400
        word, paper = self.timed("ever or break, 400 choices", 5, lambda: ever_or_break(made, (LONG,) * 5, choices, ring))
        self.assertEqual(word, "ever")
        self.assertTrue(self.timed("judge of an ever paper", 5, lambda: is_ever(made, paper)))
        self.assertEqual(len(self.timed("200 rounds more", 5, lambda: ever_choices(made, paper, 200))), 2000)
        grow = System((("f", 5),), ((0, 2, ((0, 1, 0, 0, 0, 0, 0, 0),), 1, ((0, tuple((1000000,) * 8 for _ in range(5))),), (0,) * 9),))
        far = ((0, ((1000,) * 6,) * 2),) * 8
        self.assertEqual(self.timed("200 rounds that grow", 30, lambda: rounds_from(grow, far, (LONG,) * 5, 200)), (200, None))
        down = System((("f", 1),), ((0, 0, ((0, 1),), 1, ((0, ((-1, 1),)),), (0, 0, 0)),))
        self.assertEqual(self.timed("a break far away", 1, lambda: first_break(down, ((0, ()),), (LONG,))), (LONG + 1, 0))

    def test_counters(self):
        draw = random.Random(7)
        for functions in (1, 6, 24):
            for size in (2, 1000000):
                rules = [move(at % functions, (at + 1) % functions if at < functions else draw.randrange(functions), tuple(draw.randint(-size, size - 1) for _ in range(5))) for at in range(24)]
                made = System(tuple((NAMES[at], 5) for at in range(40)), tuple(rules))
                word, found = self.timed(f"24 moves at {functions} functions, numbers to {size}", 10, lambda: turns_or_shelves(made))
                judge = is_turns if word == "turns" else is_shelf_tree
                self.assertTrue(self.timed("its judge", 2, lambda: judge(made, found)))
        stairs = System((("f", 5),), tuple(move(0, 0, tuple(0 if place < at % 5 else -1 if place == at % 5 else 9 for place in range(5))) for at in range(24)))
        self.assertEqual(self.timed("24 moves, five levels", 10, lambda: turns_or_shelves(stairs))[0], "shelves")
        loop = System((("f", 1),), (move(0, 0, (0,)),) * 24)
        self.assertEqual(len(self.timed("a walk of 1,000 moves", 2, lambda: walk_of(loop, tuple((at, 41 if at else 57) for at in range(24))))), 1000)

    def test_gone_round(self):
        rules = ((0, 2, ((-1, 0, 0, 0, 0, 0, 0, 0),) * 8, 1, ((0, tuple(unit(at, 7) for at in range(5))),), (0,) * 9),) + ((0, 0, (unit(0, 5, -1),), 1, ((0, tuple(unit(at, 5) for at in range(5))),), (0,) * 7),) * 3
        made = System((("f", 5),), rules)
        self.assertIsNone(self.timed("gone round, 1,884 rings", 10, lambda: gone_round(made, (0,) * 5, (), 3)))
        with self.assertRaises(TooMany):
            self.timed("too many rings", 2, lambda: gone_round(wide(random.Random(2), 3), (0,) * 5, (), 3))
            gone_round(System((("f", 5),), rules * 20), (0,) * 5, (), 3)


class CostsTest(Timed):
    def test_four_hundred_calls(self):
        down = [unit(at, 7, -int(at == 0)) for at in range(5)]
        rows = tuple((50, 0, 0, 0, 0, 0, 1 - at % 2 * 2, at % 3 - 1) for at in range(7)) + (unit(0, 7, -1),)
        for what, told in [("equal arguments", down), ("two unknowns as arguments", [down[0], unit(5, 7), unit(6, 7), *down[3:]])]:
            made = System((("f", 5),), tuple((0, 2, rows, 1, ((0, tuple(told)),), (0,) * 9) for _ in range(80)))
            for x in (8, 399):
                def asked():
                    try:
                        return exact_cost(made, (x, 0, 0, 0, 0), 3)
                    except TooMany:
                        return None
                self.timed(f"exact cost, 80 rules, stretch 3, {what}, from {x}", 60, asked)
        second = tuple(row + (0,) for row in down)
        made = System((("f", 5),), tuple((0, 2, rows, 1, ((0, tuple(down)), (0, second)), (0,) * 10) for _ in range(79)) + ((0, 0, (), 1, (), (0,) * 6),))
        table = self.timed("exact cost of two calls", 30, lambda: exact_cost(made, (399, 0, 0, 0, 0), 3))[2]
        self.assertTrue(self.timed("judge of a table", 30, lambda: is_table(made, (399, 0, 0, 0, 0), 3, table)))
        ring = System((("f", 5),), tuple((0, 2, rows[:7], 1, ((0, tuple(down)), (0, tuple(unit(at, 8) for at in range(5)))), (0,) * 10) for _ in range(79)) + ((0, 0, (unit(0, 5, -300),), 1, (), (0,) * 6),))
        with self.assertRaises(TooMany):
            entered_calls(ring, (399, 0, 0, 0, 0), 3)
        keep = System((("f", 5),), tuple((0, 2, rows, 1, ((0, tuple(down)), (0, tuple(unit(at, 8) for at in range(5)))), (0,) * 10) for _ in range(79)) + ((0, 0, (unit(0, 5, 0), (0, -1, 0, 0, 0, 0)), 1, (), (0,) * 6),))
        word, *found = self.timed("a round behind first calls that end", 30, lambda: exact_cost(keep, (390, 0, 0, 0, 0), 3))
        self.assertEqual(word, "round")
        self.assertTrue(self.timed("judge of a round", 10, lambda: is_round(keep, (390, 0, 0, 0, 0), 3, tuple(found))))


class AnswersTest(Timed):
    def look_at(self, what, made, keep):
        found = {}
        for call in (ending, costing, bounding, survey):
            def asked():
                try:
                    return call(made, keep)
                except TooMany as error:
                    return error.limit
            found[call] = self.timed(f"{what}, {call.__name__}", 60, asked)
        return found

    def test_greatest(self):
        draw = random.Random(11)
        for calls, is_kept in [(1, True), (1, False)]:
            made = circle(draw, 16, calls, 3, is_kept)
            self.assertLessEqual(len(duties(made, usual(made))), 400)
            self.look_at("400 duties", made, usual(made))
        made = circle(draw, 16, 1, 1000000, False)
        self.look_at("400 duties of 60 digits", made, dense(draw, made))
        for levels in (1, 5):
            made = lowering(15, levels)
            found = self.look_at(f"a ring of {levels} levels", made, usual(made))
            self.assertEqual(found[ending][0][0][0], "ends")
            answer = self.timed("priced", 60, lambda: self.price(made))
            self.assertTrue(answer is None or isinstance(answer, tuple))

    def price(self, made):
        try:
            return priced(made, usual(made), (7,) * 5)
        except TooMany:
            return None


class BenchTest(Timed):
    def test_forty_notes(self):
        made = lowering(12, 3)
        held = ending(made, usual(made))[0]
        self.assertEqual(held[0][0], "ends")
        bench = Bench(made)
        for _ in range(40):
            bench.note(*held)
        self.assertEqual(self.timed("tighten below 40 notes", 30, lambda: bench.tighten(0, (0, 1, 0, 0, 0, 0))), ())
        self.timed("loosen below 40 notes", 30, lambda: bench.loosen(0, 1))
        self.timed("undo", 1, lambda: bench.undo(calls=2))

    def test_long_runs(self):
        made = System((("f", 1),), ((0, 0, ((-1, 1),), 1, ((0, ((-1, 1),)), (0, ((-1, 1, 0),))), (0,) * 4),), ((0, 1),))
        choices = ((0, ()),) * 2000
        for claim, expected in [(("holds", made, 0, 0, (-1001, 1)), 2000), (("at most", made, (3000,), 1999), 2000), (("never chosen", made, 0), 1), (("within", made, {(0,): 1999}), 2000)]:
            found = self.timed(f"a run of 2,000 choices, {claim[0]}", 10, lambda: broken_at(claim, (3000,), choices))
            self.assertEqual(found, expected)
        self.assertTrue(self.timed("takes such a run", 10, lambda: takes(("more", made, (3000,), 1999), choices)))


if __name__ == "__main__":
    unittest.main()
