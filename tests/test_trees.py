import random
import unittest

from fallorflow.errors import InvalidKeep, InvalidNumber, InvalidOperation, InvalidSystem, TooMany
from fallorflow.fall.ranks import falling, rank_or_balance
from fallorflow.fall.trees import is_stay, is_tree, left_over, measure, rounds, tree_or_stay
from fallorflow.hold.keeps import greatest, usual
from fallorflow.rules.machine import each_run
from fallorflow.rules.system import System, edges, empty_keep, parts
from tests import draws, hidden, papers
from tests.bending import bent, longer
from tests.judging import at
from tests.nested import Nest
from tests.test_ranks import BALANCE, DOWN, LOT, RANK, UP, some_lot
from tests.values import Refusing, near_misses, strange

LONG = 10 ** 80
TREE = ((LOT, (((0, 0), RANK),), ()),)
STAY = (LOT, (BALANCE,))


def closed_ring(many):
    """A function and so many rules that call it, none of which is ever open."""
    return System((("f", 1),), ((0, 0, ((-1, 0),), 1, ((0, ((1, 1),)),), (0, 0, 0)),) * many)


class Trees(Refusing, unittest.TestCase):
    def setUp(self):
        self.draw = random.Random(91)

    def drawn(self):
        return some_lot(self.draw)

    def answer(self, made, keep, lot):
        """What is told is a tree or a stay, and is taken for nothing else."""
        word, found = tree_or_stay(made, keep, lot)
        self.assertIn(word, ("tree", "stay"))
        self.is_just(word == "tree", papers.is_tree(made, keep, lot, found))
        self.is_just(word == "tree", is_tree(made, keep, lot, found))
        self.is_just(word == "stay", papers.is_stay(made, keep, lot, found))
        self.is_just(word == "stay", is_stay(made, keep, lot, found))
        return word, found

    def can_go(self, made, keep, left):
        """The edges on no ring of what is left, and those that have a rank within their component of it."""
        components, through = papers.parted(made, tuple(left))
        return [*through, *[edge for component in components for edge in falling(made, keep, component)]]


class EitherOrTest(Trees):
    def test_drawn(self):
        seen = {"tree": 0, "stay": 0}
        for _ in range(250):
            made, keep, lot = self.drawn()
            word, found = self.answer(made, keep, lot)
            seen[word] += 1
            left = left_over(made, keep, lot)
            self.assertEqual(left, found[0] if word == "stay" else ())
            for pick in (min, max, self.draw.choice):
                there = list(lot)
                while can := self.can_go(made, keep, there):
                    there.remove(pick(can))
                self.assertEqual(tuple(there), left)
            self.assertEqual(self.in_rounds(made, keep, lot), list(rounds(made, keep, lot).items()))
            self.assertEqual(tree_or_stay(made, keep, lot), (word, found))
            if word == "stay":
                self.look_at_stays(made, keep, lot, found)
        self.assertGreater(min(seen.values()), 60)

    def in_rounds(self, made, keep, lot):
        """The pairs of edges and rounds, all that can go being taken out at once."""
        found, there, number = {}, list(lot), 0
        while can := self.can_go(made, keep, there):
            number += 1
            for edge in can:
                found[edge] = number
                there.remove(edge)
        return sorted(found.items())

    def look_at_stays(self, made, keep, lot, stay):
        """Lesser stays are stays, and within the greatest one."""
        for edge in stay[0]:
            balance = rank_or_balance(made, keep, stay[0], edge)
            self.assertEqual(balance[0], "balance")
            some = tuple(other for other, flow in zip(stay[0], balance[1][0]) if flow is not None)
            found = [rank_or_balance(made, keep, some, other) for other in some]
            if all(word == "balance" for word, _ in found):
                self.is_just(True, is_stay(made, keep, lot, (some, tuple(told for _, told in found))))
                self.assertLessEqual(set(some), set(stay[0]))

    def test_hidden(self):
        for _ in range(80):
            made, keep, lot, edge, _ = hidden.rank(self.draw)
            self.answer(made, keep, lot)
            self.assertNotIn(edge, left_over(made, keep, lot))
            made, keep, lot, _, (flows, drift) = hidden.balance(self.draw)
            self.assertEqual(self.answer(made, keep, lot)[0], "stay")
            self.assertLessEqual({other for other, flow in zip(lot, flows) if flow is not None}, set(left_over(made, keep, lot)))

    def test_stairs(self):
        for many in range(1, 6):
            made = hidden.stairs(many)
            none, lot = empty_keep(made), edges(made)
            word, tree = self.answer(made, none, lot)
            self.assertEqual(word, "tree")
            self.assertEqual(rounds(made, none, lot), {(at, 0): at + 1 for at in range(many)})
            depth = 0
            while tree:
                self.assertEqual([edge for edge, _ in tree[0][1]], [(depth, 0)])
                tree, depth = tree[0][2], depth + 1
            self.assertEqual(depth, many)

    def test_nothing_is_shared(self):
        none = empty_keep(DOWN)
        found = rounds(DOWN, none, LOT)
        found[(0, 0)] = 7
        found.clear()
        self.assertEqual(rounds(DOWN, none, LOT), {(0, 0): 1})

    def test_nothing(self):
        none = empty_keep(DOWN)
        self.assertEqual((tree_or_stay(DOWN, none, ()), rounds(DOWN, none, ()), left_over(DOWN, none, ())), (("tree", ()), {}, ()))
        line = System((("f", 0), ("g", 0)), ((0, 0, (), 1, ((1, ()),), (0, 0)),))
        self.assertEqual((tree_or_stay(line, empty_keep(line), ((0, 0),)), rounds(line, empty_keep(line), ((0, 0),))), (("tree", ()), {(0, 0): 1}))
        self.is_just(True, is_tree(line, empty_keep(line), ((0, 0),), ()))

    def test_many_levels(self):
        for many in (80,):
            made = closed_ring(many)
            none, lot = empty_keep(made), edges(made)
            self.assertEqual(self.answer(made, none, lot)[0], "tree")
            self.assertEqual(rounds(made, none, lot), {edge: 1 for edge in lot})
            tree = ()
            for place in reversed(range(many)):
                left = lot[place:]
                tree = ((left, ((left[0], (((0, 7),), ((0, 1, 1),) * (len(left) + 1))),), tree),)
            self.is_just(True, is_tree(made, none, lot, tree))
            self.is_just(True, papers.is_tree(made, none, lot, tree))
            self.is_just(False, is_tree(made, none, lot, tree[0][2]))
            self.assertEqual(measure(made, none, lot, tree, 0, (3,)), (0, 22) * many + (0,))
        two = System((("f", 1),), tuple([(0, 0, ((-1, 0),), 1, ((0, ((1, 1),)), (0, ((1, 1, 0),))), (0,) * 4)] * 80))
        lot, tree = edges(two), ()
        for place in reversed(range(160)):
            left = lot[place:]
            sums = tuple((0, 1, 1) for _ in left)
            tree = ((left, ((left[0], (((0, 0),), (*sums, sums[0]))),), tree),)
        self.is_just(True, is_tree(two, empty_keep(two), lot, tree))

    def test_most_rows(self):
        made = System((("f", 1),), ((0, 0, ((-1, 1),) * 8, 1, ((0, ((-1, 1),)),), (0, 0, 0)),) * 16)
        none, lot = empty_keep(made), tuple((at, 0) for at in range(16))
        self.assertEqual(rounds(made, none, lot[:15]), {edge: 1 for edge in lot[:15]})
        for call in (tree_or_stay, left_over, rounds):
            self.refuses(TooMany, call, made, none, lot, keeps={"limit": 120})
            self.refuses(TooMany, call, made, ((((0, 1),),), ((),)), lot[:14], keeps={"limit": 120})
        self.assertEqual(left_over(made, ((((0, 1),),), ((),)), lot[:13]), ())
        # The judges, and the measure, have no such bound.
        rank = (((0, 1),), tuple((1, 0 if edge == (0, 0) else 1, *[0] * 8) for edge in lot) + ((1, 1, 1, *[0] * 7),))
        left = tuple((1, 0 if edge == (1, 0) else 1, *[0] * 8) for edge in lot[1:])
        tree = ((lot, tuple((edge, self.rank_for(edge, lot)) for edge in lot), ()),)
        self.is_just(True, is_tree(made, none, lot, tree))
        self.assertEqual(measure(made, none, lot, tree, 0, (4,)), (0, *[5] * 16, 0))
        self.assertEqual(rank, self.rank_for((0, 0), lot))
        self.assertEqual(len(left), 15)

    def rank_for(self, edge, lot):
        return ((0, 1),), tuple((1, 0 if other == edge else 1, *[0] * 8) for other in lot) + ((1, 1, 1, *[0] * 7),)

    def test_what_is_not_true(self):
        # [9.6]. A tree, and steps without a bound that its ranks say: x = 1 lets y become anything.
        made = hidden.stairs(2)
        tree = tree_or_stay(made, empty_keep(made), edges(made))[1]
        self.assertEqual(measure(made, empty_keep(made), edges(made), tree, 0, (1, 0))[:1], (0,))
        lengths = [len(run) for run in each_run(made, (1, 0), 5, 8)]
        self.assertGreater(max(lengths), sum(measure(made, empty_keep(made), edges(made), tree, 0, (1, 0))))
        # An edge of the greatest stay that is taken in no run: it is open at a half.
        half = System((("f", 1),), ((0, 0, ((-1, 2), (1, -2)), 1, ((0, ((0, 1),)),), (0, 0, 0)),))
        self.assertEqual(left_over(half, empty_keep(half), LOT), LOT)


class JudgesTest(Trees):
    def look_at_bent(self, made, keep, lot, found, judge, own):
        for value in bent(self.draw, found, 14):
            self.is_just(own(made, keep, lot, value), judge(made, keep, lot, value), repr(value)[:300])

    def test_bent(self):
        for _ in range(60):
            made, keep, lot = self.drawn()
            word, found = tree_or_stay(made, keep, lot)
            judge, own = (is_tree, papers.is_tree) if word == "tree" else (is_stay, papers.is_stay)
            self.look_at_bent(made, keep, lot, found, judge, own)
            less = tuple(edge for edge in lot if self.draw.random() < 0.7)
            self.is_just(own(made, keep, less, found), judge(made, keep, less, found))
            further = draws.keep(self.draw, made)
            self.is_just(own(made, further, lot, found), judge(made, further, lot, found))
        for many in (2, 3):
            made = hidden.stairs(many)
            tree = tree_or_stay(made, empty_keep(made), edges(made))[1]
            for _ in range(10):
                self.look_at_bent(made, empty_keep(made), edges(made), tree, is_tree, papers.is_tree)
            # Ranks for one of the edges of a branch, exchanged with those of another level.
            inner = tree[0][2]
            for value in [inner, (*tree, *inner), ((tree[0][0], tree[0][1], ()),), ((tree[0][0], inner[0][1], inner),), ((tree[0][0], (), inner),),
                          ((tree[0][0], tree[0][1] * 2, inner),), ((tree[0][0], (*tree[0][1], *inner[0][1]), inner[0][2]),), tree[0], [tree[0]]]:
                self.is_just(papers.is_tree(made, empty_keep(made), edges(made), value), is_tree(made, empty_keep(made), edges(made), value))

    def test_any_ranks_do(self):
        # Fewer edges with ranks in a branch, the others in the branches within.
        two = System((("f", 1),), DOWN.rules * 2)
        none, lot = empty_keep(two), edges(two)
        each = [rank_or_balance(two, none, lot, edge)[1] for edge in lot]
        alone = [rank_or_balance(two, none, (edge,), edge)[1] for edge in lot]
        first = ((lot, ((lot[0], each[0]),), ((lot[1:], ((lot[1], alone[1]),), ()),)),)
        second = ((lot, ((lot[1], each[1]),), ((lot[:1], ((lot[0], alone[0]),), ()),)),)
        both = ((lot, tuple(zip(lot, each)), ()),)
        for tree in (first, second, both):
            self.is_just(True, is_tree(two, none, lot, tree))
        for tree in [((lot, ((lot[1], each[1]), (lot[0], each[0])), ()),), ((lot, ((lot[0], each[0]),) * 2, ()),), ((lot, ((lot[0], each[1]),), first[0][2]),),
                     ((lot, ((lot[0], each[0]),), ()),), ((lot, ((lot[0], each[0]),), second[0][2]),), ((lot[::-1], *first[0][1:]),),
                     (((list(lot[0]), lot[1]), *first[0][1:]),), ((((0, False), lot[1]), *first[0][1:]),), ((lot, (((0, False), each[0]),), first[0][2]),)]:
            self.is_just(False, is_tree(two, none, lot, tree))

    def test_long_ones(self):
        for _ in range(30):
            made, keep, lot, edge, rank = hidden.rank(self.draw)
            forms, sums = rank
            long = (forms, tuple(tuple(LONG * number for number in told) for told in sums))
            word, found = tree_or_stay(made, keep, lot)
            if word == "tree" and found and found[0][0] == lot and edge in [pair[0] for pair in found[0][1]]:
                pairs = tuple((other, long if other == edge else told) for other, told in found[0][1])
                self.is_just(True, is_tree(made, keep, lot, ((lot, pairs, found[0][2]),)))
            made, keep, lot, edge, _ = hidden.balance(self.draw)
            stay = tree_or_stay(made, keep, lot)[1]
            self.is_just(True, is_stay(made, keep, lot, (stay[0], longer(stay[1], LONG))))

    def test_other_values(self):
        for value in [*strange(), TREE[0], [TREE[0]], list(TREE), TREE * 2, STAY, ((LOT, (), ()),), ((LOT, (((0, 0), RANK),), None),), ((LOT, (((0, 0), RANK),)),)]:
            self.is_just(False, is_tree(DOWN, empty_keep(DOWN), LOT, value), repr(value)[:200])
        for value in [*strange(), STAY[0], list(STAY), (*STAY, ()), (LOT, ()), (LOT, (BALANCE, BALANCE)), ((), ()), (LOT * 2, (BALANCE,) * 2), (LOT, [BALANCE]),
                      (((0, 1),), (BALANCE,)), (((1, 0),), (BALANCE,)), (((0, False),), (BALANCE,)), ([(0, 0)], (BALANCE,)), (LOT, (None,)), TREE]:
            self.is_just(False, is_stay(UP, empty_keep(UP), LOT, value), repr(value)[:200])
        self.is_just(True, is_tree(DOWN, empty_keep(DOWN), LOT, TREE))
        self.is_just(True, is_stay(UP, empty_keep(UP), LOT, STAY))
        self.is_just(False, is_stay(UP, empty_keep(UP), (), STAY))
        self.is_just(False, is_tree(DOWN, empty_keep(DOWN), (), TREE))


class MeasureTest(Trees):
    def height(self, made, lot, function, seen=()):
        """The greatest number of edges on no ring of a way, all ways that take none of these twice being gone."""
        _, through = papers.parted(made, lot)
        ways = papers.reach(made, tuple(edge for edge in lot if edge not in through))
        here = {function} | ways[function]
        return max([0] + [1 + self.height(made, lot, papers.goal(made, edge)) for edge in through if papers.source(made, edge) in here])

    def told(self, made, lot, tree, function, values):
        components, _ = papers.parted(made, lot)
        found = [self.height(made, lot, function)]
        for component, (_, ranks, inner) in zip(components, tree):
            if any(papers.source(made, edge) == function for edge in component):
                found += [max(0, 1 + at(forms[function], [1, *values])) for _, (forms, _) in ranks]
                left = tuple(edge for edge in component if edge not in [pair[0] for pair in ranks])
                found += self.told(made, left, inner, function, values)
        return found

    def test_drawn(self):
        deep = 0
        for turn in range(200):
            made, keep, lot = self.drawn()
            word, tree = tree_or_stay(made, keep, lot)
            if word == "tree":
                for function, (_, many) in enumerate(made.functions):
                    values = tuple(self.draw.randint(-4, 4) for _ in range(many))
                    found = measure(made, keep, lot, tree, function, values)
                    self.assertEqual(found, tuple(self.told(made, lot, tree, function, values)))
                    deep += len(found) > 3
        self.assertGreater(deep, 15)
        for many in range(1, 6):
            made = hidden.stairs(many)
            tree = tree_or_stay(made, empty_keep(made), edges(made))[1]
            values = tuple(self.draw.randint(-4, 4) for _ in range(many))
            found = measure(made, empty_keep(made), edges(made), tree, 0, values)
            self.assertEqual(found, tuple(self.told(made, edges(made), tree, 0, values)))
            self.assertEqual(len(found), 2 * many + 1)

    def test_heights(self):
        # f -> g -> h, a ring of g and k, h -> k by no ring: a way goes round the ring first.
        rules = [(0, 1), (1, 3), (3, 1), (1, 2), (2, 4), (3, 4)]
        made = System(tuple((name, 0) for name in "fghkl"), tuple((one, 0, ((-1,),), 0, ((other, ()),), (0, 0)) for one, other in rules))
        none, lot = empty_keep(made), edges(made)
        tree = tree_or_stay(made, none, lot)[1]
        self.assertEqual([measure(made, none, lot, tree, function, ())[0] for function in range(5)], [3, 2, 1, 2, 0])
        self.assertEqual([len(measure(made, none, lot, tree, function, ())) for function in range(5)], [1, 4, 1, 4, 1])

    def test_it_falls_along_runs(self):
        # [9.5], along the calls of runs that are ended, stuck, or cut anywhere.
        steps = deep = 0
        for turn in range(200):
            if turn % 4 == 0:
                made = hidden.stairs(self.draw.randint(2, 4))
                keep, lot = empty_keep(made), edges(made)
            elif turn % 4 == 1:
                made, _, lot, _, _ = hidden.rank(self.draw)
                keep = empty_keep(made)
            else:
                made, _, lot = self.drawn()
                keep = greatest(made, usual(made))[0]
            word, tree = tree_or_stay(made, keep, lot)
            inputs = tuple(self.draw.randint(-3, 6) for _ in range(made.functions[0][1]))
            if word == "stay" or any(at(row, [1, *inputs]) < 0 for row in made.start_rows):
                continue
            for choices in list(each_run(made, inputs, 1, 4))[:20]:
                for call in Nest(made, inputs, choices).calls:
                    if call.edge in lot:
                        ahead = measure(made, keep, lot, tree, call.above.function, call.above.values)
                        here = measure(made, keep, lot, tree, call.function, call.values)
                        self.assertLess(here, ahead)
                        steps, deep = steps + 1, deep + (len(here) > 3)
        self.assertGreater(steps, 400)
        self.assertGreater(deep, 50)

    def test_errors(self):
        none = empty_keep(DOWN)
        for value in strange():
            if not isinstance(value, System):
                self.refuses(InvalidSystem, measure, value, None, None, None, None, None)
            self.refuses(InvalidKeep, measure, DOWN, value, None, None, None, None)
            if value != ():
                self.refuses(InvalidSystem, measure, DOWN, none, value, None, None, None)
            self.refuses(InvalidOperation, measure, DOWN, none, LOT, value, None, None)
            self.refuses(InvalidNumber, measure, DOWN, none, LOT, TREE, value, None, keeps={"given": value})
            self.refuses(InvalidOperation, measure, DOWN, none, LOT, TREE, 0, value)
        for value in near_misses((4,)):
            self.refuses(InvalidOperation, measure, DOWN, none, LOT, TREE, 0, value)
        self.refuses(InvalidNumber, measure, DOWN, none, LOT, TREE, 1, (4,), keeps={"given": 1})
        self.refuses(InvalidOperation, measure, DOWN, none, (), TREE, 0, (4,))
        self.assertEqual(measure(DOWN, none, LOT, TREE, 0, (4,)), (0, 5, 0))
        self.assertEqual(measure(DOWN, none, (), (), 0, (4,)), (0,))


class ErrorsTest(Trees):
    def test_sequence(self):
        none = empty_keep(DOWN)
        for value in strange():
            for call, more in [(tree_or_stay, ()), (left_over, ()), (rounds, ()), (is_tree, (TREE,)), (is_stay, (STAY,))]:
                if not isinstance(value, System):
                    self.refuses(InvalidSystem, call, value, None, None, *more)
                self.refuses(InvalidKeep, call, DOWN, value, None, *more)
                if value != ():
                    self.refuses(InvalidSystem, call, DOWN, none, value, *more)
        for lot in [((0, 1),), ((0, 0), (0, 0)), [(0, 0)], ((0, True),), (0, 0)]:
            for call in (tree_or_stay, left_over, rounds):
                self.refuses(InvalidSystem, call, DOWN, none, lot)

    def test_parts_agree(self):
        for _ in range(100):
            made, _, lot = self.drawn()
            components, through = papers.parted(made, lot)
            self.assertEqual(parts(made, lot), (tuple(components), through))


if __name__ == "__main__":
    unittest.main()
