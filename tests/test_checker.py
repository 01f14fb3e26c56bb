import random
import unittest

from fallorflow.bounds.bounds import sizing
from fallorflow.bounds.polys import poly_at
from fallorflow.check.checker import is_claim, kinds, opposite, takes
from fallorflow.errors import InvalidClaim
from fallorflow.exact.costs import exact_cost, is_round
from fallorflow.fall.trees import tree_or_stay
from fallorflow.hold.keeps import duties
from fallorflow.rules.system import System, edges, empty_keep
from tests import bounding, checking, draws, hidden
from tests.bending import bent, longer
from tests.test_costs import drawn
from tests.test_counters import counters
from tests.values import Refusing, strange

LONG = 10 ** 80
DOWN = System((("f", 1),), ((0, 0, ((-1, 1),), 1, ((0, ((-1, 1),)),), (0, 0, 0)), (0, 0, ((0, -1),), 0, (), (0, 0))), ((0, 1),))
HELD, SUMS = ((((0, 1),),), ((),)), ((1, 0, 0, 1), (1, 0, 1))
TREE = ((((0, 0),), (((0, 0), (((0, 1),), ((1, 0, 0, 0), (1, 0, 1, 0)))),), ()),)
ENDS = (HELD, SUMS, ((0, 0),), (), TREE)
# f calls g, which never opens; h is never called; k is called by h alone.
SHUT = System((("f", 1), ("g", 1), ("h", 1)), (
    (0, 0, ((-1, -1),), 1, ((1, ((0, 1),)),), (0, 0, 0)), (1, 0, (), 1, ((1, ((1, 1),)),), (0, 0, 0)), (2, 0, (), 1, ((2, ((1, 1),)), (1, ((0, 1, 0),))), (0,) * 4),
    (0, 0, (), 1, (), (0, 0))), ((0, 1),))
SHUT_KEEP = ((((0, 1),), (), ()), ((), (), ()))
SHUT_SUMS = ((1, 0, 1),)


def some_system(draw):
    return draw.choice([lambda: draws.system(draw, 3, 4), lambda: bounding.falling(draw, 3, 4), lambda: hidden.countdown(draw), lambda: counters(draw, 4), lambda: drawn(draw)])()


class Checks(Refusing, unittest.TestCase):
    def setUp(self):
        self.draw = random.Random(161)

    def judged(self, claim, value):
        """What the checker tells, which is what the words tell."""
        found = takes(claim, value)
        self.is_just(checking.is_paper(claim, value), found, repr((claim[0], value))[:400])
        return found


class KindsTest(Checks):
    def test_kinds(self):
        self.assertEqual(kinds(), tuple(sorted(checking.MEMBERS)))
        self.assertEqual(len(kinds()), 25)

    def test_drawn(self):
        seen, bends = {}, {}
        for _ in range(130):
            made = some_system(self.draw)
            for claim, paper in [*checking.claims(self.draw, made), *checking.plain_claims(self.draw)]:
                self.is_just(True, is_claim(claim))
                self.assertTrue(checking.is_claim(claim))
                self.is_just(True, takes(claim, paper), claim[0])
                self.assertTrue(checking.is_paper(claim, paper))
                seen[claim[0]] = seen.get(claim[0], 0) + 1
                self.look_at_opposite(claim, paper)
                for value in bent(self.draw, paper, 2):
                    found = self.judged(claim, value)
                    bends[found] = bends.get(found, 0) + 1
                for value in [*bent(self.draw, claim, 2), claim[:-1], (*claim, claim[-1]), (*claim[:2], *claim[1:]), list(claim)]:
                    self.is_just(checking.is_claim(value), is_claim(value), repr(value)[:300])
        self.assertEqual(tuple(sorted(seen)), kinds())
        self.assertGreater(min(seen.values()), 5, seen)
        self.assertGreater(min(bends.values()), 500)

    def look_at_opposite(self, claim, paper):
        other = opposite(claim)
        if claim[0] == "least":
            self.assertIsNone(other)
            return
        self.assertEqual(other, (checking.OTHERS[claim[0]], *claim[1:]))
        self.assertEqual(opposite(other), claim)
        self.is_just(True, is_claim(other))
        self.is_just(False, takes(other, paper))

    def test_papers_of_others(self):
        # Never papers for two opposite claims, whatever papers there are; for some pairs one for one of both.
        taken = 0
        for _ in range(60):
            made = some_system(self.draw)
            pairs = list(checking.claims(self.draw, made))
            for claim, _ in pairs:
                other = opposite(claim)
                for _, paper in pairs:
                    here = takes(claim, paper)
                    taken += here
                    self.assertEqual(here, checking.is_paper(claim, paper))
                    if other is not None:
                        self.is_just(False, takes(other, paper), (other, paper))
        self.assertGreater(taken, 500)

    def test_one_of_both(self):
        promised = {"point", "follows", "falls", "taken out", "billed", "shared", "counters end"}
        for _ in range(60):
            made = draws.system(self.draw, 2, 3) if self.draw.random() < 0.6 else counters(self.draw, 4)
            words = {claim[0] for claim, _ in [*checking.claims(self.draw, made), *checking.plain_claims(self.draw)]}
            here = {"point", "follows", "taken out", "billed", "shared"} | ({"falls"} if edges(made) else set())
            if made.functions[0][1] and takes_counters(made):
                here.add("counters end")
            for word in here & promised:
                self.assertTrue({word, checking.OTHERS[word]} & words, (word, words))

    def test_claims(self):
        none = empty_keep(DOWN)
        good = [("point", 0, ()), ("bar", 14, ((0,) * 15,) * 40), ("follows", 1, (), (0, 0)), ("holds", DOWN, 1, 0, (0, 1, 0)), ("holds", DOWN, 0, 0, (0, 10 ** 60 - 1)),
                ("chosen", DOWN, 1), ("falls", DOWN, none, ((0, 0),), (0, 0)), ("stays", DOWN, none, ()), ("billed", DOWN, HELD), ("split", DOWN, none, ((0, 0),)),
                ("least", DOWN, HELD, 0, (0,), (-LONG, 1)), ("least", DOWN, none, 0, (-1,), (0, 1)), ("ends", DOWN), ("more", DOWN, (0,), 0), ("at most", DOWN, (0,), LONG),
                ("within", DOWN, {}), ("beyond", DOWN, {(40,): LONG})]
        bad = [("point", 15, ()), ("point", True, ()), ("bar", 14, ((0,) * 15,) * 41), ("bar", 1, ((0, 10 ** 60),)), ("follows", 1, (), (0,)), ("follows", 1, ()), ("holds", DOWN, 1, 0, (0, 1)),
               ("holds", DOWN, 0, 0, (0, 1, 0)), ("holds", DOWN, 2, 0, (0, 1)), ("holds", DOWN, True, 0, (0, 1, 0)), ("holds", DOWN, False, 0, (0, 1)), ("holds", DOWN, 0, 1, (0, 1)),
               ("holds", DOWN, 0, 0, (0, 10 ** 60)), ("holds", DOWN, 0, 0, [0, 1]), ("chosen", DOWN, 2), ("chosen", DOWN, -1), ("chosen", DOWN, False), ("chosen", DOWN), ("chosen", None, 0),
               ("falls", DOWN, none, (), (0, 0)), ("falls", DOWN, none, ((0, 0),), (0, False)), ("falls", DOWN, none, ((0, 0),), [0, 0]), ("falls", DOWN, none, ((0, 0),), (1, 0)),
               ("falls", DOWN, ((), ()), ((0, 0),), (0, 0)), ("falls", DOWN, none, ((0, 1),), (0, 1)), ("stays", DOWN, none, ((0, 0), (0, 0))), ("stays", DOWN, none, [(0, 0)]),
               ("billed", DOWN), ("billed", DOWN, HELD, ()), ("billed", SHUT, HELD), ("billed", DOWN, ((((0, 10 ** 60),),), ((),))), ("least", DOWN, HELD, 0, (-1,), (0, 1)),
               ("least", DOWN, HELD, 0, (0,), (2, 4)), ("least", DOWN, HELD, 0, (0,), (0, 2)), ("least", DOWN, HELD, 0, (0,), (1, -1)), ("least", DOWN, HELD, 0, (0,), (1, 0)),
               ("least", DOWN, HELD, 0, (0,), 1), ("least", DOWN, HELD, 0, (0,), (1, True)), ("least", DOWN, HELD, 0, (0,), [1, 1]), ("least", DOWN, HELD, 1, (0,), (0, 1)),
               ("least", DOWN, HELD, 0, (10 ** 60,), (0, 1)), ("counters end", DOWN, 1), ("counters end", SHUT), ("ends",), ("ends", DOWN, ()), ("Ends", DOWN), ("at most", DOWN, (-1,), 5),
               ("at most", DOWN, (0,), -1), ("at most", DOWN, (0,), True), ("at most", DOWN, (0, 0), 1), ("at most", DOWN, (True,), 1), ("at most", DOWN, (10 ** 60,), 1), ("at most", DOWN, [0], 1),
               ("within", DOWN, {(): 1}), ("within", DOWN, {(0,): 0}), ("within", DOWN, {(41,): 1}), ("within", DOWN, {(True,): 1}), ("within", DOWN, ()), (True, DOWN), (), ("least",), ("point",)]
        for value in good:
            self.is_just(True, is_claim(value), value[0])
            self.assertTrue(checking.is_claim(value), value[0])
        for value in [*bad, *strange()]:
            self.is_just(False, is_claim(value), repr(value)[:200])
            self.refuses(InvalidClaim, opposite, value)
            self.refuses(InvalidClaim, takes, value, None)

    def test_nothing_is_shared(self):
        poly = {(1,): 2, (0,): 1}
        other = opposite(("within", DOWN, poly))
        self.assertEqual(list(other[2]), [(0,), (1,)])
        other[2].clear()
        self.assertEqual((poly, list(poly)), ({(1,): 2, (0,): 1}, [(1,), (0,)]))
        # Dicts in papers, and in claims, are not changed.
        takes(("within", DOWN, poly), (HELD, SUMS, TREE, sizing(DOWN, HELD)))
        takes(("beyond", DOWN, poly), ((3,), ((0, ()),)))
        endings = {(1, (4,)): (1, (1, ())), (1, (3,)): (0, (1, ()))}
        made = System((("f", 1), ("g", 1)), ((0, 0, (), 2, ((1, ((0, 1),)), (0, ((0, 1, 0),))), (0,) * 4), (1, 0, (), 3, (), (0, 0))))
        self.is_just(True, takes(("for ever", made), ("round", (4,), ((), (((0, ()), 1),), endings))))
        self.assertEqual((list(poly), list(endings)), ([(1,), (0,)], [(1, (4,)), (1, (3,))]))

    def test_other_values(self):
        for claim in [("point", 1, ((0, 1),)), ("bar", 1, ((-1, 0),)), ("follows", 1, (), (1, 0)), ("escapes", 1, (), (0, 1)), ("holds", DOWN, 0, 0, (0, 1)), ("breaks", DOWN, 0, 0, (0, 1)),
                      ("never chosen", DOWN, 0), ("chosen", DOWN, 0), ("falls", DOWN, HELD, ((0, 0),), (0, 0)), ("balanced", DOWN, HELD, ((0, 0),), (0, 0)), ("taken out", DOWN, HELD, ((0, 0),)),
                      ("stays", DOWN, HELD, ((0, 0),)), ("billed", DOWN, HELD), ("cropped", DOWN, HELD), ("shared", DOWN, HELD, ((0, 0),)), ("split", DOWN, HELD, ((0, 0),)),
                      ("least", DOWN, HELD, 0, (3,), (3, 1)), ("counters end", System((("f", 1),), DOWN.rules[:1])), ("counters go on", System((("f", 1),), DOWN.rules[:1])), ("ends", DOWN),
                      ("for ever", DOWN), ("at most", DOWN, (3,), 1), ("more", DOWN, (3,), 1), ("within", DOWN, {}), ("beyond", DOWN, {})]:
            for value in [*strange(), ("ring",), ("round", (3,)), ("ring", None), ("round", (3,), None), ("round", (-3,), ((), (), {})), ("bill", None, None, None), ("bound", HELD, SUMS, None),
                          ("bound", HELD, SUMS, None, None), ("bill", HELD, SUMS, None), (HELD, SUMS, ((0, 0),), (), None), ((3,), None), ((3,), ((0, ()),), ())]:
                found = self.judged(claim, value)
                # One number may be a bar for one row.
                self.assertTrue(not found or claim[0] == "bar")


def takes_counters(made):
    from fallorflow.ever.counters import are_counters
    return are_counters(made)


class HoldsTest(Checks):
    def test_rows(self):
        self.assertTrue(self.judged(("holds", DOWN, 0, 0, (0, 1)), (HELD, SUMS)))
        # A row that follows, but is not in the lot; the row in the other lot.
        self.assertFalse(self.judged(("holds", DOWN, 0, 0, (1, 1)), (HELD, SUMS)))
        self.assertFalse(self.judged(("holds", DOWN, 1, 0, (0, 1, 0)), (HELD, SUMS)))
        both = ((((0, 1),),), (((0, 0, 1),),))
        self.assertEqual(duties(DOWN, both), (("call", 0, 0, 0), ("end", 0, 0), ("end", 1, 0), ("start", 0)))
        sums = ((1, 0, 0, 1), (1, 0, 0, 0, 0), (1, 0, 0, 0), (1, 0, 1))
        self.assertTrue(self.judged(("holds", DOWN, 1, 0, (0, 0, 1)), (both, sums)))
        self.assertFalse(self.judged(("holds", DOWN, 0, 0, (0, 0)), (both, sums)))
        for value in [(both, sums[:3]), (both, sums * 2), (HELD, sums), (both, SUMS), (both, list(sums)), (list(both), sums), (sums, both)]:
            self.assertFalse(self.judged(("holds", DOWN, 1, 0, (0, 0, 1)), value))

    def test_long_keeps(self):
        # The keep of a paper may have integers of any length; so may its sums.
        keep = ((((0, 1), (0, LONG)),), ((),))
        sums = ((1, 0, 0, 0, 1), (LONG, 0, 0, 0, LONG * LONG), (1, 0, 1), (1, 0, LONG))
        self.assertTrue(self.judged(("holds", DOWN, 0, 0, (0, 1)), (keep, sums)))
        thirteen = ((((0, 1),) * 13,), ((),))
        self.assertFalse(self.judged(("holds", DOWN, 0, 0, (0, 1)), (thirteen, (((1, 0, *[0] * 13, 1),) * 13 + ((1, 0, 1),) * 13))))
        # More than 400 duties.
        many = System((("f", 5),), tuple([(0, 0, (), 0, ((0, tuple(bounding.unit(at, 5) for at in range(5))),), (0,) * 7)] * 40), tuple(bounding.unit(at, 5) for at in range(5)))
        rows = tuple(bounding.unit(at % 5, 5) for at in range(12))
        unit = [tuple(int(place == at) for place in range(12)) for at in range(12)]
        sums = tuple((1, 0, *unit[at]) for at in range(12)) * 40 + tuple((1, 0, *unit[at % 5][:5]) for at in range(12))
        self.assertEqual(len(sums), 492)
        self.assertTrue(self.judged(("holds", many, 0, 0, rows[3]), (((rows,), ((),)), sums)))

    def test_breaks(self):
        claim = ("breaks", DOWN, 0, 0, (-2, 1))
        for inputs, choices, expected in [((3,), (), False), ((2,), (), False), ((1,), (), True), ((3,), ((0, ()),), False), ((3,), ((0, ()),) * 2, True), ((3,), ((0, ()),) * 3, True),
                                          ((3,), ((0, ()),) * 4, False), ((-1,), (), False), ((0,), ((1, ()),), True)]:
            self.assertEqual(self.judged(claim, (inputs, choices)), expected, (inputs, choices))
        # The result 0, and what was handed in, when the calls end.
        claim = ("breaks", DOWN, 1, 0, (-2, 1, 0))
        for inputs, choices, expected in [((1,), (), False), ((1,), ((0, ()),), False), ((1,), ((0, ()), (1, ())), True), ((0,), ((1, ()),), True)]:
            self.assertEqual(self.judged(claim, (inputs, choices)), expected)
        self.assertFalse(self.judged(("breaks", SHUT, 0, 1, (-5, 0)), ((0,), ((3, ()),))))


class NetsTest(Checks):
    def test_by_hand(self):
        # The edges (0, 0), (1, 0), (2, 0), (2, 1); the first one is closed, and nothing else is met.
        bar = (1, 1)
        net = (SHUT_KEEP, SHUT_SUMS, (), (bar, None, None, None))
        self.assertTrue(self.judged(("ends", SHUT), (*net, ())))
        for rule, shown, expected in [(0, bar, True), (1, None, True), (2, None, True), (3, None, False), (0, None, False), (1, bar, False), (2, (), False), (3, (1,), False)]:
            self.assertEqual(self.judged(("never chosen", SHUT, rule), (*net, shown)), expected, rule)
        for lot, bars, expected in [
                ((), (None, None, None, None), False), ((), (bar, (1, 1), None, None), False), ((), (bar, None, None), False), ((), (bar, None, None, None, None), False), ((), (None, bar, None, None), False),
                (((2, 0), (2, 1)), (bar, None), True), (((1, 0),), (bar, None, None), True), (((0, 0),), (None, None, None), False), (((0, 0), (1, 0)), (None, None), True), (((0, 1),), (bar, None, None, None), False),
                (((1, 0), (0, 0)), (None, None), False), ([], (bar, None, None, None), False), ((), [bar, None, None, None], False), ((), (list(bar), None, None, None), False),
                (((0, 0), (1, 0), (2, 0), (2, 1)), (), True), (((False, 0), (1, 0)), (None, None), False)]:
            net = (SHUT_KEEP, SHUT_SUMS, lot, bars)
            self.assertEqual(self.judged(("never chosen", SHUT, 2), (*net, None)), expected, (lot, bars))
        # A tree that goes with other edges.
        self.assertFalse(self.judged(("ends", SHUT), (SHUT_KEEP, SHUT_SUMS, ((1, 0),), (bar, None, None), ())))
        # Without the row, rule 0 can be chosen; a keep that is not inductive.
        none = empty_keep(SHUT)
        self.assertFalse(self.judged(("ends", SHUT), (none, (), (), ((1,), None, None, None), ())))
        self.assertFalse(self.judged(("ends", SHUT), (((((-1, 1),), (), ()), ((), (), ())), ((1, 0, 1),), (), (bar, None, None, None), ())))

    def test_a_bar_where_it_is_not_met(self):
        made = System((("f", 0), ("g", 0)), ((1, 0, ((-1,),), 1, ((1, ()),), (0, 0)), (1, 0, (), 1, ((1, ()),), (0, 0))))
        none = empty_keep(made)
        for bars in [(None, None), ((1,), None)]:
            self.assertTrue(self.judged(("ends", made), (none, (), (), bars, ())))
        self.assertFalse(self.judged(("ends", made), (none, (), (), (None, (1,)), ())))

    def test_drawn(self):
        seen = [0, 0]
        for _ in range(120):
            made = draws.system(self.draw, 4, 5)
            keep, sums = checking.held(made)
            net = checking.net_of(made, keep, sums)
            others = [edge for edge in edges(made) if edge not in net[2]]
            near = [net]
            if net[2]:
                gone = self.draw.choice(net[2])
                lot = tuple(edge for edge in net[2] if edge != gone)
                bars = list(net[3])
                bars.insert(sorted([*others, gone]).index(gone), self.draw.choice([None, (0,), (1, 1)]))
                near.append((keep, sums, lot, tuple(bars)))
            if others:
                more = self.draw.choice(others)
                at = others.index(more)
                near.append((keep, sums, tuple(sorted([*net[2], more])), net[3][:at] + net[3][at + 1:]))
                near.append((keep, sums, net[2], (*net[3][:at], None, *net[3][at + 1:])))
                near.append((keep, sums, net[2], tuple(reversed(net[3]))))
            for value in near:
                for rule in range(len(made.rules)):
                    for bar in (None, (1, 1)):
                        found = self.judged(("never chosen", made, rule), (*value, bar))
                        seen[found] += 1
                tree = tree_or_stay(made, keep, value[2])
                seen[self.judged(("ends", made), (*value, tree[1]))] += 1
        self.assertGreater(min(seen), 40)

    def test_ends(self):
        self.assertTrue(self.judged(("ends", DOWN), ENDS))
        for value in [ENDS[:4], (*ENDS, ()), list(ENDS), (HELD, SUMS, (), ((1, 0),), ()), (HELD, SUMS, ((0, 0),), (), ()), (HELD, SUMS, ((0, 0),), (None,), TREE), (*ENDS[:4], list(TREE))]:
            self.assertFalse(self.judged(("ends", DOWN), value))
        self.assertTrue(self.judged(("ends", DOWN), (HELD, longer(SUMS, LONG), *ENDS[2:])))


class CostsTest(Checks):
    def test_bills_at_the_number(self):
        # The bill x, twice; from 7 on it is 7.
        for scale in (1, 2, LONG):
            bill = ("bill", scale, ((0, scale),), ((1, 0, scale),), ((1, 0, 0, 0), (1, 0, scale, 0)))
            for number in (6, 7, 8):
                self.assertEqual(self.judged(("at most", DOWN, (7,), number), ("bill", HELD, SUMS, bill)), number >= 7, (scale, number))
        # x + 1/2 is rounded down.
        bill = ("bill", 2, ((1, 2),), ((1, 1, 2),), ((1, 0, 0, 0), (1, 1, 2, 0)))
        self.assertEqual([self.judged(("at most", DOWN, (7,), number), ("bill", HELD, SUMS, bill)) for number in (6, 7, 8)], [False, True, True])
        for value in [("bill", HELD, SUMS), ("bill", HELD, SUMS, bill, ()), ("bound", HELD, SUMS, bill), ("bill", HELD, (), bill), ("bill", empty_keep(DOWN), (), bill), (True, HELD, SUMS, bill), bill]:
            self.assertFalse(self.judged(("at most", DOWN, (7,), 9), value))

    def test_bounds_at_the_number(self):
        sizes = sizing(DOWN, HELD)
        rule = bounding.Rule(DOWN, TREE, sizes)
        poly = rule.poly(("cost",))
        number = poly_at(1, poly, (7,))
        for more in (-1, 0, 1, LONG):
            self.assertEqual(self.judged(("at most", DOWN, (7,), number + more), ("bound", HELD, SUMS, TREE, sizes)), more >= 0)
        for told, expected in [(poly, True), ({**poly, (1,): poly[1,] + 1}, True), ({**poly, (40,): LONG}, True), ({}, False), ({key: size for key, size in poly.items() if key != (1,)}, False),
                               ({**poly, (1,): poly[1,] - 1} if poly[1,] > 1 else {(0,): 9}, False), ({(2,): LONG}, False)]:
            self.assertEqual(self.judged(("within", DOWN, told), (HELD, SUMS, TREE, sizes)), expected)
        # A sizing that refuses the cost, no sizing, no tree, no sums.
        for value in [(HELD, SUMS, TREE, ()), (HELD, SUMS, (), sizes), (HELD, (), TREE, sizes), (HELD, SUMS, TREE), (HELD, SUMS, TREE, sizes, ())]:
            self.assertFalse(self.judged(("within", DOWN, {**poly, (1,): LONG}), value))
        fork = System((("f", 1),), ((0, 0, ((-1, 1),), 1, ((0, ((-1, 1),)), (0, ((-1, 1, 0),))), (0,) * 4),), ((0, 1),))
        keep, sums = checking.held(fork)
        tree, sizes = tree_or_stay(fork, keep, edges(fork))[1], sizing(fork, keep)
        self.assertFalse(self.judged(("within", fork, {(40,): LONG, (0,): LONG}), (keep, sums, tree, sizes)))
        self.assertFalse(self.judged(("at most", fork, (0,), LONG), ("bound", keep, sums, tree, sizes)))
        self.assertTrue(self.judged(("ends", fork), (keep, sums, edges(fork), (), tree)))

    def test_runs(self):
        three = ((0, ()),) * 3
        for number, expected in [(0, True), (2, True), (3, False), (4, False)]:
            self.assertEqual(self.judged(("more", DOWN, (3,), number), three), expected)
        for poly, expected in [({}, True), ({(0,): 2}, True), ({(0,): 3}, False), ({(1,): 1}, False), ({(2,): 1}, False)]:
            self.assertEqual(self.judged(("beyond", DOWN, poly), ((3,), three)), expected, poly)
        self.assertFalse(self.judged(("more", DOWN, (3,), 2), ((3,), three)))
        self.assertFalse(self.judged(("more", DOWN, (3,), 2), (*three, (0, ()))))
        self.assertFalse(self.judged(("more", DOWN, (3,), 0), list(three)))

    def test_long_runs(self):
        many = ((0, ()),) * 2000
        more = ((0, ()),) * 2001
        for claim, one, other in [(("more", DOWN, (3000,), 1999), many, more), (("beyond", DOWN, {(0,): 1999}), ((3000,), many), ((3000,), more)), (("chosen", DOWN, 0), ((3000,), many), ((3000,), more)),
                                  (("breaks", DOWN, 0, 0, (-1001, 1)), ((3000,), many), ((3000,), more))]:
            self.is_just(True, takes(claim, one))
            self.is_just(False, takes(claim, other))
        made = System((("f", 1),), ((0, 1, (), 1, ((0, ((0, 0, 1),)),), (0,) * 4),))
        for number in (10 ** 60 - 1, -10 ** 60 + 1, 10 ** 60, -10 ** 60):
            short = abs(number) < 10 ** 60
            self.assertEqual(self.judged(("chosen", made, 0), ((3,), ((0, (number,)),))), short)
            self.assertEqual(self.judged(("chosen", made, 0), ((number,), ((0, (3,)),))), short)

    def test_least(self):
        claim, paper = next((claim, paper) for claim, paper in checking.lot_claims(self.draw, DOWN, HELD, edges(DOWN)) if claim[0] == "least")
        self.assertTrue(self.judged(claim, paper))
        for fraction in [(claim[5][0] + 1, 1), (claim[5][0] - 1, 1), (2 * claim[5][0] + 1, 2)]:
            self.assertFalse(self.judged((*claim[:5], fraction), paper))
        self.assertFalse(self.judged(claim, paper[::-1]))
        bill, mixture = paper
        self.assertTrue(self.judged(claim, (bill, longer(mixture, LONG))))


class ForEverTest(Checks):
    RISE = System((("f", 1),), ((0, 1, ((0, 1, 0), (0, 0, 1)), 1, ((0, ((0, 1, 1),)),), (0,) * 4),), ((0, 1),))

    def test_rings(self):
        paper = ((3,), ((0, (4,)),), ((0, ((1, 0),)),), ((0, 1),), ((1, 0, 1), (1, 1, 0), (1, 1, 1)))
        self.assertTrue(self.judged(("for ever", self.RISE), ("ring", paper)))
        for value in [("ring", paper, ()), ("ring", ((-3,), *paper[1:])), ("ring", (*paper[:3], (), paper[4])), ("Ring", paper), ["ring", paper], ("ring", list(paper)), paper, ("round", paper)]:
            self.assertFalse(self.judged(("for ever", self.RISE), value))

    def test_rounds(self):
        made = System((("f", 1), ("g", 1)), ((0, 2, (), 2, ((1, ((0, 1, 0, 0),)), (0, ((0, 1, 1, 1, 0),))), (0,) * 6), (1, 0, (), 3, (), (0, 0))))
        for number in (0, 1, 5, 10 ** 60, -LONG):
            choice = (0, (number, -number))
            value = ((), ((choice, 1),), {(1, (4,)): (0, (1, ()))})
            self.assertTrue(self.judged(("for ever", made), ("round", (4,), value)), number)
            self.assertEqual(is_round(made, (4,), 3, value), abs(number) <= 3)
        for value in [("round", (5,), value), ("round", (4,), value, ()), ("round", (4,), list(value)), ("round", (10 ** 60,), value), ("round", (4,), (*value[:2], {})), ("round", [4], value)]:
            self.assertFalse(self.judged(("for ever", made), value))

    def test_rounds_need_arguments_without_results(self):
        named = System((("f", 0),), ((0, 0, (), 0, ((0, ()),), (0, 0)),))
        value = exact_cost(named, (), 0)[1:]
        self.assertTrue(self.judged(("for ever", named), ("round", (), value)))
        more = System((("f", 0), ("g", 1)), (*named.rules, (1, 0, (), 0, ((0, ()), (1, ((0, 0, 1),))), (0,) * 4)))
        self.assertFalse(self.judged(("for ever", more), ("round", (), value)))

    def test_start_rows(self):
        made = System((("f", 1),), ((0, 0, (), 0, ((0, ((0, 1),)),), (0, 0, 0)),), ((0, 1),))
        value = ((), (((0, ()), 0),), {})
        for x in (-1, 0, 1):
            self.assertEqual(self.judged(("for ever", made), ("round", (x,), value)), x >= 0)


class SoundTest(Checks):
    def test_no_false_claims(self):
        """Claims that runs show to be false, and papers of true ones nearby."""
        tried = 0
        for _ in range(70):
            made = some_system(self.draw)
            pairs = list(checking.claims(self.draw, made))
            runs = [(claim, paper) for claim, paper in pairs if claim[0] in ("breaks", "chosen", "more", "beyond", "for ever")]
            for claim, _ in runs:
                false = opposite(claim)
                for other, paper in pairs:
                    if other[0] == false[0]:
                        tried += 1
                        self.is_just(False, takes(false, paper), (false, paper))
        self.assertGreater(tried, 150)

    def test_what_is_not_true(self):
        # [0.16], [16.5]. No tree, and no endless run: open at a half alone. So neither claim of the pair has a paper.
        half = System((("f", 1),), ((0, 0, ((-1, 2), (1, -2)), 1, ((0, ((0, 1),)),), (0, 0, 0)),))
        none = empty_keep(half)
        word, stay = tree_or_stay(half, none, edges(half))
        self.assertEqual(word, "stay")
        self.assertTrue(self.judged(("stays", half, none, edges(half)), stay))
        # A bill, and no tree: what goes on for ever costs nothing.
        free = System((("f", 0),), ((0, 0, (), 0, ((0, ()),), (0, 0)),))
        self.assertTrue(self.judged(("billed", free, empty_keep(free)), ("bill", 1, ((0,),), ((1, 0),), ((1, 0),))))
        self.assertEqual(tree_or_stay(free, empty_keep(free), edges(free))[0], "stay")
        # One paper for many claims.
        for number in range(3):
            self.is_just(True, takes(("more", DOWN, (3,), number), ((0, ()),) * 3))


if __name__ == "__main__":
    unittest.main()
