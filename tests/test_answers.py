import itertools
import random
import unittest

from fallorflow.bills.least import least_bill
from fallorflow.bounds.bounds import bound, is_refusal, is_sizing
from fallorflow.bounds.polys import poly_at
from fallorflow.check.answers import bounding, costing, ending, gone_round, priced, survey
from fallorflow.check.checker import takes
from fallorflow.errors import InvalidForm, InvalidKeep, InvalidNumber, InvalidOperation, InvalidSystem, Refused, TooMany
from fallorflow.ever.counters import are_counters, moves
from fallorflow.ever.rings import first_break, is_ring, shift_of
from fallorflow.fall.trees import is_tree, left_over, tree_or_stay
from fallorflow.hold.closed import edge_opens
from fallorflow.hold.keeps import greatest, is_within, usual
from fallorflow.rules.machine import Standing, each_run, is_run, run
from fallorflow.rules.made import beside, permuted, without
from fallorflow.rules.system import System, edges, empty_keep
from tests import bounding as bounds, checking, draws, hidden, papers
from tests.test_checker import some_system
from tests.test_counters import counters, move
from tests.test_ranks import some_keep
from tests.test_rings import gone, shifting
from tests.test_time import NAMES
from tests.values import Refusing, near_misses, strange

TWICE = System((("f", 1),), ((0, 0, ((-2, 1),), 1, ((0, ((-1, 1),)), (0, ((-2, 1, 0),))), (0,) * 4), (0, 0, ((1, -1),), 1, (), (0, 0))), ((0, 1),))
ONCE = System((("f", 1),), ((0, 0, ((-1, 1),), 2, ((0, ((-1, 1),)),), (0,) * 3), (0, 0, ((0, 1),), 1, (), (0, 0))), ((0, 1),))
RISE = System((("f", 1),), ((0, 1, ((0, 1, 0), (0, 0, 1)), 1, ((0, ((0, 1, 1),)),), (0,) * 4),), ((0, 1),))
ROWS = ((((0, 1),),), ((),))
FOUR = (ending, costing, bounding, survey)


def candidates(draw, made):
    """Drawn rows, each once in its lot."""
    while True:
        found = some_keep(draw, made)
        if all(len(set(lot)) == len(lot) for lots in found for lot in lots):
            return found


def lot_of(made, keep):
    """The call edges that are not closed, at whose functions rows of such edges, from the function 0 on, come."""
    opened = [edge for edge in edges(made) if edge_opens(made, keep, edge)[0] == "open"]
    reached = checking.reach(made, opened)
    return tuple(edge for edge in opened if papers.source(made, edge) in reached)


class Answers(Refusing, unittest.TestCase):
    def setUp(self):
        self.draw = random.Random(171)

    def told(self, call, *args):
        """What is told, None for too much."""
        try:
            return call(*args)
        except TooMany:
            return None

    def taken(self, answer):
        """The claims of an answer, its papers being taken, and the second reading takes them, too."""
        self.assertIsInstance(answer, tuple)
        for claim, paper in answer:
            self.is_just(True, takes(claim, paper), claim[0])
            self.assertTrue(checking.is_paper(claim, paper), claim[0])
        return [claim for claim, _ in answer]


class FourTest(Answers):
    def test_drawn(self):
        seen = {}
        for _ in range(160):
            made = some_system(self.draw)
            keep = usual(made) if self.draw.random() < 0.6 else candidates(self.draw, made)
            best = greatest(made, keep)[0]
            for call, look in [(ending, self.look_at_ending), (costing, self.look_at_costing), (bounding, self.look_at_bounding)]:
                found = self.told(call, made, keep)
                if found is not None:
                    word = look(made, best, found)
                    seen[word] = seen.get(word, 0) + 1
            inputs = checking.some_inputs(self.draw, made)
            if inputs is not None:
                word = self.look_at_priced(made, keep, best, inputs)
                seen[word] = seen.get(word, 0) + 1
            self.look_at_survey(made, keep)
        for word in ("ends", "stays", "counters end", "counters go on", "billed", "cropped", "open", "within", "refused", "least", "bound", "nothing"):
            self.assertGreater(seen.get(word, 0), 3, seen)

    def look_at_ending(self, made, best, answer):
        claims = self.taken(answer)
        lot = lot_of(made, best)
        if claims[0][0] == "ends":
            self.assertEqual(claims[0], ("ends", made))
            keep, _, edges_told, _, _ = answer[0][1]
            self.assertEqual((keep, edges_told), (best, lot))
            self.assertEqual(left_over(made, best, lot), ())
        else:
            self.assertEqual(claims[0], ("stays", made, best, lot))
            self.assertEqual(answer[0][1][0], left_over(made, best, lot))
        if are_counters(made) and len(moves(made)) <= 24:
            self.assertEqual(len(answer), 2)
            self.assertIn(claims[1], [("counters end", made), ("counters go on", made)])
            return claims[1][0] if self.draw.random() < 0.5 else claims[0][0]
        self.assertEqual(len(answer), 1)
        return claims[0][0]

    def look_at_costing(self, made, best, answer):
        claims = self.taken(answer)
        self.assertEqual((len(claims), claims[0][1:]), (1, (made, best)))
        self.assertIn(claims[0][0], ("billed", "cropped"))
        return claims[0][0]

    def look_at_bounding(self, made, best, answer):
        word = answer[0]
        if word == "open":
            self.assertEqual(self.taken(answer[1]), [("stays", made, best, edges(made))])
            self.assertEqual(answer[1][0][1][0], left_over(made, best, edges(made)))
        elif word == "within":
            (_, _, poly), = self.taken(answer[1])
            keep, _, tree, sizes = answer[1][0][1]
            self.assertEqual(keep, best)
            self.assertEqual(bound(made, best, tree, sizes, ("cost",)), ("within", poly))
        else:
            _, tree, sizes, refusal = answer
            self.is_just(True, is_tree(made, best, edges(made), tree))
            self.is_just(True, is_sizing(made, best, sizes))
            self.is_just(True, is_refusal(made, best, tree, sizes, ("cost",), refusal))
        return word

    def look_at_priced(self, made, keep, best, inputs):
        bill = self.told(least_bill, made, best, 0, inputs)
        found = self.told(priced, made, keep, inputs)
        if bill is None or found is None:
            self.assertIsNone(found)
            return "many"
        claims = self.taken(found)
        if bill[0] == "least":
            least, most = claims
            top, bottom = bill[1]
            self.assertEqual((least, most), (("least", made, best, 0, inputs, (top, bottom)), ("at most", made, inputs, top // bottom)))
            self.assertEqual(found[1][1], ("bill", best, found[1][1][2], found[0][1][0]))
            return "least"
        told = bounding(made, keep)
        if told[0] != "within":
            self.assertEqual(found, ())
            return "nothing"
        (claim, (_, sums, tree, sizes)), = told[1]
        number = poly_at(len(inputs), claim[2], tuple(map(abs, inputs)))
        self.assertEqual(claims, [("at most", made, inputs, number)])
        self.assertEqual(found[0][1], ("bound", best, sums, tree, sizes))
        return "bound"

    def look_at_survey(self, made, keep):
        parts = [self.told(call, made, keep) for call in (costing, bounding, ending)]
        found = self.told(survey, made, keep)
        if None in parts:
            self.assertIsNone(found)
        else:
            self.assertEqual(found, {"bill": parts[0][0][0][0], "bound": parts[1][0], "ending": parts[2][0][0][0]})
            self.assertEqual(list(found), ["bill", "bound", "ending"])

    def test_closed_start(self):
        # The start rows hold at no point: L is asked by edges alone, so the ring of f stays in it.
        made = System((("f", 1),), ((0, 0, (), 1, ((0, ((0, 1),)),), (0, 0, 0)),), ((-1, 0),))
        answer = ending(made, empty_keep(made))
        self.assertEqual([claim for claim, _ in answer], [("stays", made, empty_keep(made), ((0, 0),))])
        self.taken(answer)

    def test_twenty_four_moves(self):
        for many in (24, 25):
            made = System((("f", 1),), tuple(move(0, 0, (-1 - at,)) for at in range(many)))
            claims = self.taken(ending(made, empty_keep(made)))
            self.assertEqual([claim[0] for claim in claims], ["ends", "counters end"][:1 + (many == 24)])

    def test_closed_edges_are_left_out(self):
        made = System((("f", 1), ("g", 1)), ((0, 0, ((-1, -1),), 1, ((1, ((0, 1),)),), (0, 0, 0)), (1, 0, (), 1, ((1, ((1, 1),)),), (0, 0, 0)), (0, 0, (), 1, (), (0, 0))), ((0, 1),))
        keep = ((((0, 1),), ()), ((), ()))
        (claim, paper), = ending(made, keep)
        self.assertEqual((claim[0], paper[2]), ("ends", ()))
        # For all edges there is no tree.
        self.assertEqual(bounding(made, keep)[0], "open")
        self.assertEqual(survey(made, keep), {"bill": "cropped", "bound": "open", "ending": "ends"})


class KeepsTest(Answers):
    def test_no_keep_does_better(self):
        # [17.5]
        seen = {"ends": 0, "billed": 0, "least": 0}
        for _ in range(120):
            made = some_system(self.draw)
            keep = usual(made)
            fewer = tuple(tuple(tuple(row for row in lot if self.draw.random() < 0.5) for lot in lots) for lots in keep)
            less = greatest(made, fewer)[0]
            self.is_just(True, is_within(made, keep, less))
            word = self.told(tree_or_stay, made, less, lot_of(made, less))
            if word is not None and word[0] == "tree":
                found = self.told(ending, made, keep)
                if found is not None:
                    self.assertEqual(found[0][0][0], "ends")
                    seen["ends"] += 1
            inputs = checking.some_inputs(self.draw, made)
            if inputs is None:
                continue
            bill = self.told(least_bill, made, less, 0, inputs)
            if bill is not None and bill[0] == "least":
                self.assertEqual(costing(made, keep)[0][0][0], "billed")
                seen["billed"] += 1
                top, bottom = priced(made, keep, inputs)[0][0][5]
                self.assertLessEqual(top * bill[1][1], bill[1][0] * bottom)
                seen["least"] += top * bill[1][1] != bill[1][0] * bottom
        self.assertGreater(min(seen["ends"], seen["billed"]), 40, seen)

    def test_other_systems(self):
        # [17.6]
        seen = {}
        for _ in range(90):
            made = some_system(self.draw)
            keep = usual(made) if self.draw.random() < 0.5 else candidates(self.draw, made)
            here = [self.told(call, made, keep) for call in (ending, costing)]
            if None in here:
                continue
            here = [answer[0][0][0] for answer in here]
            order = (0, *self.draw.sample(range(1, len(made.functions)), len(made.functions) - 1))
            moved = tuple(tuple(lots[index] for index in order) for lots in keep)
            there = [call(permuted(made, order), moved)[0][0][0] for call in (ending, costing)]
            self.assertEqual(there, here)
            rules = tuple(index for index in range(len(made.rules)) if self.draw.random() < 0.4)
            less = [call(without(made, rules), keep)[0][0][0] for call in (ending, costing)]
            for mine, yours, word in zip(here, less, ("ends", "billed")):
                if mine == word:
                    self.assertEqual(yours, word)
            other = draws.system(self.draw, 2, 3)
            if {name for name, _ in made.functions} & {name for name, _ in other.functions}:
                other = System(tuple((name * 2, many) for name, many in other.functions if len(name) < 5) or (("zz", 0),), ())
            both = self.draw.choice([usual, empty_keep])(other)
            joined = tuple(mine + yours for mine, yours in zip(keep, both))
            found = self.told(ending, beside(made, other), joined)
            if found is not None:
                self.assertEqual(found[0][0][0], here[0])
                seen[here[0]] = seen.get(here[0], 0) + 1
        self.assertGreater(min(seen["ends"], seen["stays"]), 12, seen)

    def test_what_is_not_true(self):
        # [17.8]. Billed, and without an end, as it costs nothing; ended, neither billed nor within a poly (TWICE).
        free = System((("f", 0),), ((0, 0, (), 0, ((0, ()),), (0, 0)),))
        self.assertEqual(survey(free, empty_keep(free)), {"bill": "billed", "bound": "open", "ending": "stays"})
        self.assertEqual(survey(TWICE, empty_keep(TWICE)), {"bill": "cropped", "bound": "refused", "ending": "ends"})
        # A stay, and no ring behind any run: none of the edges is ever open at an integer.
        half = System((("f", 1),), ((0, 0, ((-1, 2), (1, -2)), 1, ((0, ((0, 1),)),), (0, 0, 0)),))
        self.assertEqual(survey(half, empty_keep(half))["ending"], "stays")
        for x in range(-4, 5):
            self.assertIsNone(gone_round(half, (x,), (), 3))
        # Further candidates, and the same poly.
        polys = [bounding(ONCE, keep)[1][0][0][2] for keep in (ROWS, usual(ONCE))]
        self.assertEqual(polys[0], polys[1])


class GoneRoundTest(Answers):
    def all_rings(self, made, function, links):
        """All rings of a function with at most so many links, all rows of links being tried."""
        told = []
        for index, rule in enumerate(made.rules):
            if rule[4]:
                rest = (0,) * made.functions[rule[0]][1]
                for numbers in itertools.product((-1, 0, 1), repeat=rule[1]):
                    told.append((index, tuple((number, *rest) for number in numbers)))
        found = []
        for many in range(1, links + 1):
            for ring in itertools.product(told, repeat=many):
                if made.rules[ring[0][0]][0] == function and is_ring(made, ring):
                    found.append(ring)
        return found

    def test_drawn(self):
        seen = {"ring": 0, "none": 0, "ended": 0}
        for turn in range(260):
            made = self.draw.choice([shifting, shifting, lambda draw: counters(draw, 4), draws.system])(self.draw)
            if sum(3 ** rule[1] for rule in made.rules if rule[4]) > 14:
                made = without(made, tuple(index for index, rule in enumerate(made.rules) if rule[1] == 2))
            inputs = checking.some_inputs(self.draw, made)
            links = self.draw.choice([1, 2, 3])
            if inputs is None or sum(3 ** rule[1] for rule in made.rules if rule[4]) > 14:
                continue
            choices = self.draw.choice(list(itertools.islice(each_run(made, inputs, 1, 2), 20)))
            call = run(made, inputs, choices).call
            if call is None:
                self.refuses(Refused, gone_round, made, inputs, choices, links, keeps={"reason": ("ended",)})
                seen["ended"] += 1
                continue
            rings = self.all_rings(made, call[0], links)
            if len(rings) > 2000:
                self.refuses(TooMany, gone_round, made, inputs, choices, links, keeps={"limit": 2000})
                continue
            good = [ring for ring in rings if shift_of(made, ring) is not None and first_break(made, ring, call[1]) is None]
            found = gone_round(made, inputs, choices, links)
            if not good:
                self.assertIsNone(found)
                seen["none"] += 1
                continue
            self.assertEqual(self.taken(found), [("for ever", made)])
            word, paper = found[0][1]
            self.assertEqual((word, paper[:2]), ("ring", (inputs, choices)))
            self.assertIn(paper[2], good)
            seen["ring"] += 1
        self.assertGreater(min(seen.values()), 12, seen)

    def many_rings(self, many):
        """A function with so many rings of one link, that is all."""
        return System((("f", 1),), ((0, 0, ((-1, 0),), 1, ((0, ((0, 1),)),), (0, 0, 0)),) * many)

    def test_most_rings(self):
        # 12 ** 3 + 12 ** 2 + 12 = 1884; 13 links make more than 2000.
        self.assertIsNone(gone_round(self.many_rings(12), (0,), (), 3))
        self.refuses(TooMany, gone_round, self.many_rings(13), (0,), (), 3, keeps={"limit": 2000})
        self.assertIsNone(gone_round(self.many_rings(44), (0,), (), 2))
        self.refuses(TooMany, gone_round, self.many_rings(45), (0,), (), 2, keeps={"limit": 2000})
        self.assertIsNone(gone_round(self.many_rings(80), (0,), (), 1))
        # 44 + 44 ** 2 = 1980; with 20 of two links by another function, 2000 in all, then 2001.
        for more, expected in [(20, None), (21, TooMany)]:
            rules = self.many_rings(44).rules + ((0, 0, (), 1, ((1, ()),), (0, 0, 0)),) + ((1, 0, ((-1,),), 1, ((0, ((0,),)),), (0, 0)),) * more
            made = System((("f", 1), ("g", 0)), rules)
            self.assertEqual(len(self.all_rings(made, 0, 2)) if more == 20 else 2000, 2000)
            if expected is None:
                self.assertIsNone(gone_round(made, (0,), (), 2))
            else:
                self.refuses(expected, gone_round, made, (0,), (), 2, keeps={"limit": 2000})

    def test_only_rings_count(self):
        # Many links that never lead back to the function.
        rules = tuple((0, 2, (), 1, ((1, ((0, 1, 0, 0),)),), (0,) * 5) for _ in range(40)) + tuple((1, 2, (), 1, ((1, ((0, 1, 0, 0),)),), (0,) * 5) for _ in range(40))
        made = System((("f", 1), ("g", 1)), rules)
        self.assertIsNone(gone_round(made, (0,), (), 3))
        self.refuses(TooMany, gone_round, made, (0,), ((0, (0, 0)),), 2, keeps={"limit": 2000})

    def test_picks(self):
        # It goes on for ever with the unknown 1, and 2, but not with 0 and -1: 1 is found, 2 is not looked at.
        made = System((("f", 1),), ((0, 1, ((-1, 0, 1),), 1, ((0, ((0, 1, 0),)),), (0,) * 4),))
        self.assertEqual(gone_round(made, (0,), (), 1)[0][1][1][2], ((0, ((1, 0),)),))
        self.assertIsNone(gone_round(System(made.functions, ((0, 1, ((-2, 0, 1),), 1, ((0, ((0, 1, 0),)),), (0,) * 4),)), (0,), (), 3))
        # Two links that are a shift together; one that grows is none.
        swap = System((("f", 2),), ((0, 0, ((0, 1, 0),), 1, ((0, ((1, 0, 1), (-1, 1, 0))),), (0, 0, 0, 0)),))
        self.assertEqual([gone_round(swap, (5, 5), (), links) is None for links in (1, 2, 3)], [True, False, False])
        twice = System((("f", 1),), ((0, 0, ((0, 1),), 1, ((0, ((0, 2),)),), (0, 0, 0)),))
        self.assertIsNone(gone_round(twice, (1,), (), 3))

    def test_errors(self):
        made = System((("f", 1),), ((0, 0, ((-1, 1),), 1, ((0, ((-1, 1),)),), (0, 0, 0)), (0, 0, ((0, -1),), 1, (), (0, 0))), ((0, 1),))
        for value in strange():
            if not isinstance(value, System):
                self.refuses(InvalidSystem, gone_round, value, None, None, None)
            self.refuses(InvalidForm, gone_round, made, value, None, None)
            if value != ():
                self.refuses(InvalidOperation, gone_round, made, (3,), value, None)
            self.refuses(InvalidNumber, gone_round, made, (3,), (), value, keeps={"given": value})
        for value in (0, 4, -1):
            self.refuses(InvalidNumber, gone_round, made, (3,), (), value, keeps={"given": value})
        self.refuses(Refused, gone_round, made, (-1,), None, None, keeps={"reason": ("given", 0)})
        self.refuses(Refused, gone_round, made, (0,), ((0, ()),), None, keeps={"reason": ("choice", 0)})
        many = ((0, ()),) * 401
        self.refuses(InvalidNumber, gone_round, made, (500,), many, 4, keeps={"given": 4})
        self.refuses(TooMany, gone_round, made, (500,), many, 3, keeps={"limit": 400})
        self.refuses(TooMany, gone_round, made, (400,), ((0, ()),) * 400 + ((1, ()),), 1, keeps={"limit": 400})
        self.refuses(Refused, gone_round, made, (399,), ((0, ()),) * 399 + ((1, ()),), 1, keeps={"reason": ("ended",)})
        self.assertIsNone(gone_round(made, (500,), many[:400], 1))


class ErrorsTest(Answers):
    def test_parameters(self):
        for value in strange():
            for call in FOUR:
                if not isinstance(value, System):
                    self.refuses(InvalidSystem, call, value, None)
                self.refuses(InvalidKeep, call, ONCE, value)
            if not isinstance(value, System):
                self.refuses(InvalidSystem, priced, value, None, None)
            self.refuses(InvalidKeep, priced, ONCE, value, None)
            self.refuses(InvalidForm, priced, ONCE, ROWS, value)
        twice = ((((0, 1), (0, 1)),), ((),))
        for call in FOUR:
            self.refuses(InvalidKeep, call, ONCE, twice)
        self.refuses(InvalidKeep, priced, ONCE, twice, None)
        for value in near_misses((3,)):
            self.refuses(InvalidForm, priced, ONCE, ROWS, value)
        self.refuses(Refused, priced, ONCE, ROWS, (-1,), keeps={"reason": ("given", 0)})

    def test_too_many(self):
        # Duties first, ahead of all that is asked behind them, but behind what is not given.
        five = tuple(bounds.unit(at, 5) for at in range(5))
        rules = ((0, 0, (), 0, ((0, five),), (0,) * 7),) * 33
        made = System((("f", 5),), rules, five)
        keep = (((*five, *[(at, 1, 1, 1, 1, 1) for at in range(7)]),), ((),))
        for call in FOUR:
            self.refuses(TooMany, call, made, keep, keeps={"limit": 400})
        self.refuses(TooMany, priced, made, keep, (0,) * 5, keeps={"limit": 400})
        self.refuses(Refused, priced, made, keep, (-1,) * 5, keeps={"reason": ("given", 0)})
        # Rows of edges; equations of bills; what is asked first.
        wide = System((("f", 1),), ((0, 0, ((-1, 1),) * 8, 1, ((0, ((-1, 1),)),), (0, 0, 0)),) * 16, ((0, 1),))
        none = empty_keep(wide)
        self.assertEqual(costing(wide, none)[0][0][0] in ("billed", "cropped"), True)
        for call in (ending, bounding, survey):
            self.refuses(TooMany, call, wide, none, keeps={"limit": 120})
        equations = System((("f", 5),), ((0, 2, ((-1, 1, 0, 0, 0, 0, 0, 0),), 1, ((0, ((-1, 1, 0, 0, 0, 0, 0, 0), *[bounds.unit(at, 7) for at in range(1, 5)])),), (0,) * 9),) * 10, five)
        for call in (costing, survey):
            self.refuses(TooMany, call, equations, empty_keep(equations), keeps={"limit": 80})
        self.refuses(TooMany, priced, equations, empty_keep(equations), (1,) * 5, keeps={"limit": 80})
        self.assertEqual(ending(equations, empty_keep(equations))[0][0][0], "ends")

    def test_polys_beyond_the_bounds(self):
        many = 8
        rules = []
        for f in range(many):
            rules.append((f, 0, ((-1, 1, 0),), 1, ((f, ((-1, 1, 0), (0, 1, 1))),), (0,) * 4))
            if f + 1 < many:
                rules.append((f, 0, (), 1, ((f + 1, ((0, 0, 1), (0, 0, 1))),), (0,) * 4))
        made = System(tuple((NAMES[at], 2) for at in range(many)), tuple(rules), ((0, 1, 0), (0, 0, 1)))
        self.refuses(TooMany, bounding, made, empty_keep(made), keeps={"limit": 300})
        self.assertEqual(ending(made, empty_keep(made))[0][0][0], "ends")

    def test_nothing_is_shared(self):
        found = bounding(ONCE, ROWS)
        found[1][0][0][2].clear()
        again = bounding(ONCE, ROWS)
        self.assertTrue(again[1][0][0][2])
        told = survey(ONCE, ROWS)
        told.clear()
        self.assertEqual(survey(ONCE, ROWS), {"bill": "billed", "bound": "within", "ending": "ends"})

    def test_standing_runs(self):
        # The claims of `priced` against runs.
        for _ in range(40):
            made = hidden.countdown(self.draw)
            inputs = tuple(self.draw.randint(0, 3) for _ in range(made.functions[0][1]))
            found = self.told(priced, made, usual(made), inputs)
            if not found:
                continue
            for choices in itertools.islice(each_run(made, inputs, 0, 12), 30):
                self.is_just(True, is_run(made, inputs, choices))
                self.assertLessEqual(run(made, inputs, choices).cost, found[-1][0][3])
        self.assertEqual(gone(RISE, ((0, ((1, 0),)),), (2,)), ([2, 1], (3,)))
        self.assertEqual(Standing(RISE, (2,)).call, (0, (2,)))


if __name__ == "__main__":
    unittest.main()
