import random
import unittest

from fallorflow.errors import InvalidForm, InvalidKeep, InvalidNumber, InvalidOperation, InvalidSystem, TooMany
from fallorflow.fall import ranks as module
from fallorflow.fall.ranks import falling, is_balance, is_rank, most_times, narrowed, rank_or_balance, ranks_added
from fallorflow.hold.keeps import greatest, usual
from fallorflow.rules.machine import each_run
from fallorflow.rules.system import System, edges, empty_keep
from tests import draws, hidden, holding, papers
from tests.bending import bent, longer
from tests.judging import at
from tests.nested import Nest
from tests.values import SMALL, Refusing, near_misses, strange

LONG = 10 ** 80
DOWN = System((("f", 1),), ((0, 0, ((-1, 1),), 1, ((0, ((-1, 1),)),), (0, 0, 0)),))
UP = System((("f", 1),), ((0, 0, ((0, 1),), 1, ((0, ((1, 1),)),), (0, 0, 0)),))
LOT, RANK, BALANCE = ((0, 0),), (((0, 1),), ((1, 0, 0), (1, 1, 1))), ((((1, 0), (1, 0)),), (0, 1))


def loop(guard, told, many=1, unknowns=0):
    """A function with a rule that calls it once."""
    return System((("f", many),), ((0, unknowns, guard, 1, ((0, told),), (0,) * (many + unknowns + 2)),))


def some_keep(draw, made):
    kind = draw.random()
    if kind < 0.4:
        return draws.keep(draw, made)
    return usual(made) if kind < 0.6 else greatest(made, usual(made))[0]


def some_lot(draw):
    """A drawn system, a keep, and a lot within the bound of rows."""
    while True:
        made = draws.system(draw, draw.randint(1, 4), draw.randint(1, 7))
        lot = tuple(edge for edge in edges(made) if draw.random() < 0.85)
        keep = some_keep(draw, made)
        if lot and sum(len(holding.edge_parts(made, keep, edge)[1]) for edge in lot) <= 120:
            return made, keep, lot


class Ranks(Refusing, unittest.TestCase):
    def setUp(self):
        self.draw = random.Random(81)

    def drawn(self):
        return some_lot(self.draw)

    def answer(self, made, keep, lot, edge):
        """What is told is a rank or a balance, and is taken for nothing else."""
        word, found = rank_or_balance(made, keep, lot, edge)
        is_fall = word == "rank"
        self.assertIn(word, ("rank", "balance"))
        self.is_just(is_fall, papers.is_rank(made, keep, lot, edge, found))
        self.is_just(not is_fall, papers.is_balance(made, keep, lot, edge, found))
        self.is_just(is_fall, is_rank(made, keep, lot, edge, found))
        self.is_just(not is_fall, is_balance(made, keep, lot, edge, found))
        return word, found

    def word(self, made, edge=(0, 0), keep=None, lot=None):
        keep = empty_keep(made) if keep is None else keep
        return self.answer(made, keep, edges(made) if lot is None else lot, edge)[0]


class EitherOrTest(Ranks):
    def test_constant(self):
        self.assertEqual(module.MOST_ROWS, 120)

    def test_drawn(self):
        seen = {"rank": 0, "balance": 0}
        for _ in range(300):
            made, keep, lot = self.drawn()
            found = [self.answer(made, keep, lot, edge)[0] for edge in lot]
            for word in found:
                seen[word] += 1
            self.assertEqual(falling(made, keep, lot), tuple(edge for edge, word in zip(lot, found) if word == "rank"))
        self.assertGreater(min(seen.values()), 100)

    def test_hidden(self):
        for _ in range(150):
            made, keep, lot, edge, known = hidden.rank(self.draw)
            self.is_just(True, is_rank(made, keep, lot, edge, known))
            self.is_just(False, is_balance(made, keep, lot, edge, known))
            self.assertEqual(self.answer(made, keep, lot, edge)[0], "rank")
            made, keep, lot, edge, known = hidden.balance(self.draw)
            self.is_just(True, is_balance(made, keep, lot, edge, known))
            self.is_just(False, is_rank(made, keep, lot, edge, known))
            self.assertEqual(self.answer(made, keep, lot, edge)[0], "balance")

    def test_closed_edges(self):
        shut = loop(((-3, 2), (1, -1)), ((5, 7),))
        word, (_, sums) = rank_or_balance(shut, empty_keep(shut), LOT, (0, 0))
        self.assertEqual((word, [told[0] for told in sums]), ("rank", [0, 0]))
        self.answer(shut, empty_keep(shut), LOT, (0, 0))
        self.is_just(True, is_rank(shut, empty_keep(shut), LOT, (0, 0), (((-9, 77),), ((0, 1, 1, 2), (0, LONG, LONG, 2 * LONG)))))
        self.is_just(False, is_rank(shut, empty_keep(shut), LOT, (0, 0), (((0, 0),), ((0, 0, 0, 0), (0, 0, 0, 0)))))
        # A closed edge beside: what it does to the forms is not asked.
        both = System((("f", 1),), (*DOWN.rules, (0, 0, ((-3, 2), (1, -1)), 1, ((0, ((99, 1),)),), (0, 0, 0))))
        self.assertEqual(falling(both, empty_keep(both), edges(both)), ((0, 0), (1, 0)))
        self.assertEqual(self.word(both), "rank")
        # Closed by entry rows, and by results of calls that stand ahead.
        self.assertEqual(self.word(UP, keep=((((-1, -1),),), ((),))), "rank")
        two = System((("f", 0), ("g", 0)), ((0, 0, (), 1, ((1, ()), (0, ())), (0, 0, 0)),))
        self.assertEqual(self.word(two, (0, 1)), "balance")
        self.assertEqual(self.word(two, (0, 1), ((((),) * 2), ((), ((-1, 1), (0, -1))))), "rank")

    def test_fractions(self):
        # Rows that hold at a half alone, from which the step comes back; and from which it does not.
        self.assertEqual(self.word(loop(((-1, 2), (1, -2)), ((0, 1),))), "balance")
        self.assertEqual(self.word(loop(((-1, 2), (1, -2)), ((1, -1),))), "balance")
        self.assertEqual(self.word(loop(((-1, 2), (1, -2)), ((1, 1),))), "rank")
        # Whole numbers fall, a third does not: from 1/3 the step is to 1/3.
        self.assertEqual(self.word(loop(((0, 1), (1, -1)), ((1, -2),))), "balance")
        self.is_just(True, is_balance(*[loop(((0, 1), (1, -1)), ((1, -2),))], empty_keep(DOWN), LOT, (0, 0), ((((3, 1), (3, 1)),), (0, 0))))

    def test_directions(self):
        # Vectors with w = 0: along the second edge the unknown can grow as it will.
        wild = System((("f", 2),), ((0, 0, ((-1, 1, 0),), 1, ((0, ((-1, 1, 0), (0, 0, 1))),), (0,) * 4),
                                    (0, 1, ((-1, 0, 1, 0),), 1, ((0, ((0, 0, 0, 1), (-1, 0, 1, 0))),), (0,) * 5)))
        word, (flows, drift) = self.answer(wild, empty_keep(wild), edges(wild), (0, 0))
        self.assertEqual(word, "balance")
        self.is_just(True, is_balance(wild, empty_keep(wild), edges(wild), (0, 0),
                                      ((((1, 1, 0), (1, 1, 0)), ((0, 0, 0, 1), (1, 0, 1, 0))), (0, 0, 0))))
        self.assertEqual(self.word(wild, (1, 0)), "rank")
        # A drift in which the edge goes on: x falls, but is never asked to be anything.
        self.assertEqual(self.word(loop((), ((-1, 1),))), "balance")
        self.assertEqual(self.answer(loop((), ((-1, 1),)), empty_keep(DOWN), LOT, (0, 0))[1][1][1] < 0, True)
        self.assertEqual(self.word(loop(((5, -1),), ((-1, 1),))), "balance")
        self.assertEqual(self.word(loop(((5, -1),), ((1, 1),))), "rank")

    def test_without_parameters(self):
        still = System((("f", 0), ("g", 0), ("h", 0)), ((0, 0, (), 1, ((1, ()),), (0, 0)), (1, 0, (), 1, ((0, ()), (2, ())), (0, 0, 0)), (2, 0, (), 1, (), (0,))))
        none = empty_keep(still)
        self.assertEqual([self.word(still, edge) for edge in edges(still)], ["balance", "balance", "rank"])
        self.is_just(True, is_balance(still, none, edges(still), (0, 0), ((((1,), (1,)), ((2,), (7,)), None), (0,))) is False)
        self.is_just(True, is_balance(still, none, edges(still), (0, 0), ((((2,), (1,)), ((2,), (7,)), None), (0,))))
        self.is_just(True, is_rank(still, none, edges(still), (1, 1), (((1,), (1,), (0,)), ((1, 0), (1, 0), (1, 0), (1, 1)))))

    def test_edges_on_no_ring(self):
        for _ in range(150):
            made, keep, lot = self.drawn()
            _, through = papers.parted(made, lot)
            self.assertLessEqual(set(through), set(falling(made, keep, lot)))
            for edge in lot:
                self.assertEqual(rank_or_balance(made, keep, (edge,), edge)[0] == "rank" or edge in papers.parted(made, (edge,))[0][0], True)

    def test_most_rows(self):
        # 15 rules of 8 rows each are 120, with one entry row for all of them 135.
        made = System((("f", 1),), ((0, 0, ((-1, 1),) * 8, 1, ((0, ((-1, 1),)),), (0, 0, 0)),) * 16)
        none, lot = empty_keep(made), tuple((at, 0) for at in range(15))
        self.assertEqual(len(falling(made, none, lot)), 15)
        self.assertEqual(self.answer(made, none, lot, (3, 0))[0], "rank")
        more = ((((5, 1),),), ((),))
        for keep, edges_of in [(none, (*lot, (15, 0))), (more, lot[:14])]:
            self.refuses(TooMany, falling, made, keep, edges_of, keeps={"limit": 120})
            self.refuses(TooMany, rank_or_balance, made, keep, edges_of, (3, 0), keeps={"limit": 120})
            # The judges have no such bound.
            self.is_just(True, is_rank(made, keep, edges_of, (3, 0), self.rank_of(made, keep, edges_of)))
        self.assertEqual(len(falling(made, more, lot[:13])), 13)

    def test_one_row_more(self):
        made = System((("f", 1),), ((0, 0, ((-1, 1),) * 8, 1, ((0, ((-1, 1),)),), (0, 0, 0)),) * 15 + DOWN.rules)
        none, lot = empty_keep(made), edges(made)
        self.assertEqual(len(falling(made, none, lot[:15])), 15)
        self.assertEqual(len(falling(made, none, lot[1:])), 15)
        self.refuses(TooMany, falling, made, none, lot, keeps={"limit": 120})
        self.refuses(TooMany, rank_or_balance, made, none, lot, (15, 0), keeps={"limit": 120})

    def rank_of(self, made, keep, lot):
        ahead = [0] * len(keep[0][0])
        each = (1, 1, *ahead, *[0] * 8)
        return ((0, 1),), tuple((1, 0, *each[2:]) if edge == (3, 0) else each for edge in lot) + ((1, 1, *ahead, 1, *[0] * 7),)

    def test_equal_calls(self):
        for _ in range(40):
            made, keep, lot = self.drawn()
            for edge in lot:
                self.assertEqual(rank_or_balance(made, keep, lot, edge), rank_or_balance(made, keep, lot, edge))

    def test_what_is_not_true(self):
        # [8.6]. What falls alone does not fall beside an edge that lifts it.
        both = System((("f", 1),), (*DOWN.rules, (0, 0, (), 1, ((0, ((1, 1),)),), (0, 0, 0))))
        self.assertEqual((falling(both, empty_keep(both), ((0, 0),)), falling(both, empty_keep(both), edges(both))), (((0, 0),), ()))
        # Two edges with ranks, by x and by y, that fall without end beside one another: no common forms are bounded at both.
        each = System((("f", 2),), ((0, 0, ((0, 1, 0),), 1, ((0, ((-1, 1, 0), (0, 0, 1))),), (0,) * 4), (0, 0, ((0, 0, 1),), 1, ((0, ((0, 1, 0), (-1, 0, 1))),), (0,) * 4)))
        self.assertEqual(falling(each, empty_keep(each), edges(each)), ((0, 0), (1, 0)))
        # A balance at a half: no run comes there.
        half = loop(((-1, 2), (1, -2)), ((0, 1),))
        self.assertEqual(self.word(half), "balance")
        self.assertTrue(all(run == () for number in range(-3, 4) for run in each_run(half, (number,), 0, 3)))


class JudgesTest(Ranks):
    def look_at_bent(self, made, keep, lot, edge, found, judge, own):
        for value in bent(self.draw, found, 12):
            self.is_just(own(made, keep, lot, edge, value), judge(made, keep, lot, edge, value), repr(value)[:300])
        long = longer(found, LONG)
        self.is_just(own(made, keep, lot, edge, long), judge(made, keep, lot, edge, long))

    def test_bent(self):
        for _ in range(60):
            made, keep, lot = self.drawn()
            edge = self.draw.choice(lot)
            word, found = rank_or_balance(made, keep, lot, edge)
            judge, own = (is_rank, papers.is_rank) if word == "rank" else (is_balance, papers.is_balance)
            self.look_at_bent(made, keep, lot, edge, found, judge, own)
            # For another edge, lot, keep.
            for other in lot:
                self.is_just(own(made, keep, lot, other, found), judge(made, keep, lot, other, found))
            less = tuple(other for other in lot if other == edge or self.draw.random() < 0.5)
            self.is_just(own(made, keep, less, edge, found), judge(made, keep, less, edge, found))
            further = draws.keep(self.draw, made)
            self.is_just(own(made, further, lot, edge, found), judge(made, further, lot, edge, found))

    def test_bent_hidden(self):
        for _ in range(40):
            self.look_at_bent(*hidden.rank(self.draw), is_rank, papers.is_rank)
            self.look_at_bent(*hidden.balance(self.draw), is_balance, papers.is_balance)

    def test_long_ones(self):
        for _ in range(30):
            made, keep, lot, edge, (forms, sums) = hidden.rank(self.draw)
            times, place = 10 ** 70 + 7, lot.index(edge)
            long = [tuple(times * number for number in told) for told in sums]
            self.is_just(True, is_rank(made, keep, lot, edge, (forms, tuple(long))))
            # Forms so many times: the loss less 1 is so many times that one, and more.
            great = [(told[0], *[times * number for number in told[1:]]) for told in sums]
            great[place] = (great[place][0], great[place][1] + (times - 1) * great[place][0], *great[place][2:])
            value = (longer(forms, times), tuple(great))
            self.is_just(True, is_rank(made, keep, lot, edge, value))
            made, keep, lot, edge, (flows, drift) = hidden.balance(self.draw)
            self.is_just(True, is_balance(made, keep, lot, edge, (longer(flows, times), longer(drift, times))))
            apart = tuple(None if flow is None else (flow[0], longer(flow[1], 3)) for flow in flows)
            self.is_just(True, is_balance(made, keep, lot, edge, (apart, drift)))

    def test_other_values(self):
        for value in [*strange(), RANK[0], RANK[1], [RANK], list(RANK), (*RANK, 0), RANK[::-1], (RANK,), BALANCE[0], (*BALANCE, ()), BALANCE[::-1]]:
            self.is_just(False, is_rank(DOWN, empty_keep(DOWN), LOT, (0, 0), value), repr(value)[:200])
            self.is_just(False, is_balance(UP, empty_keep(UP), LOT, (0, 0), value), repr(value)[:200])
        self.is_just(True, is_rank(DOWN, empty_keep(DOWN), LOT, (0, 0), RANK))
        self.is_just(True, is_balance(UP, empty_keep(UP), LOT, (0, 0), BALANCE))
        for flows in [(None,), (((0, 1), (1, 0)),), (((1, 0), (0, 1)),), (((-1, 0), (1, 0)),), (((1, 0),),), (((1, -1), (1, 0)),), (((1, 0), (1, -1)),)]:
            self.is_just(False, is_balance(UP, empty_keep(UP), LOT, (0, 0), (flows, (0, 1))))
        for drift in [(0, -1), (0, 0), (1, 1), (0, 2), (0,), (0, 1, 0), None, (False, True)]:
            self.is_just(False, is_balance(UP, empty_keep(UP), LOT, (0, 0), (BALANCE[0], drift)))


class LessAndMoreTest(Ranks):
    def test_narrowed(self):
        for _ in range(80):
            made, keep, lot, edge, known = hidden.rank(self.draw)
            found = rank_or_balance(made, keep, lot, edge)[1]
            lesser = tuple(other for other in lot if other == edge or self.draw.random() < 0.5)
            for rank in (found, known):
                less = narrowed(made, keep, lot, edge, rank, lesser)
                self.assertEqual(less[0], rank[0])
                self.assertEqual(less[1], (*[told for other, told in zip(lot, rank[1]) if other in lesser], rank[1][-1]))
                self.is_just(True, papers.is_rank(made, keep, lesser, edge, less))
                self.is_just(True, is_rank(made, keep, lesser, edge, less))

    def test_added(self):
        for _ in range(80):
            made, keep, lot, edge, one = hidden.rank(self.draw)
            other = rank_or_balance(made, keep, lot, edge)[1]
            for first, second in [(one, other), (other, one), (one, one), (longer_sums(one, 7), other)]:
                found = ranks_added(made, keep, lot, edge, first, second)
                self.assertEqual(found[0], tuple(tuple(a + b for a, b in zip(*pair)) for pair in zip(first[0], second[0])))
                self.is_just(True, papers.is_rank(made, keep, lot, edge, found))
                self.is_just(True, is_rank(made, keep, lot, edge, found))

    def test_added_where_edges_are_closed(self):
        both = System((("f", 1),), (*DOWN.rules, (0, 0, ((-3, 2), (1, -1)), 1, ((0, ((99, 1),)),), (0, 0, 0))))
        none, lot = empty_keep(both), edges(both)
        for edge in lot:
            found = rank_or_balance(both, none, lot, edge)[1]
            self.is_just(True, is_rank(both, none, lot, edge, ranks_added(both, none, lot, edge, found, found)))
            # A closed edge can have a sum with a scale, too.
            other = (((0, 1),), ((1, 1, 0), (1, 0, 0, 0), (1, 1, 1)))
        zero = (((0, 1),), ((1, 0, 0), (0, 1, 1, 2), (1, 1, 1)))
        scaled = (((0, 0),), ((1, 0, 0), (1, 0, 0, 0), (0, 1, 1, 2)))
        self.is_just(True, is_rank(both, none, lot, (0, 0), zero))
        for one, other in [(zero, scaled), (scaled, zero), (scaled, scaled)]:
            if is_rank(both, none, lot, (1, 0), one) and is_rank(both, none, lot, (1, 0), other):
                self.is_just(True, is_rank(both, none, lot, (1, 0), ranks_added(both, none, lot, (1, 0), one, other)))

    def test_errors(self):
        none = empty_keep(DOWN)
        for value in strange():
            self.refuses(InvalidOperation, narrowed, DOWN, none, LOT, (0, 0), value, LOT)
            self.refuses(InvalidOperation, narrowed, DOWN, none, LOT, (0, 0), RANK, value)
            self.refuses(InvalidOperation, ranks_added, DOWN, none, LOT, (0, 0), value, RANK)
            self.refuses(InvalidOperation, ranks_added, DOWN, none, LOT, (0, 0), RANK, value)
        two = System((("f", 1),), DOWN.rules * 3)
        lot = edges(two)
        rank = rank_or_balance(two, none, lot[:2], (0, 0))[1]
        for lesser in [(), ((1, 0),), ((1, 0), (0, 0)), ((0, 0), (0, 0)), ((0, 0), (2, 0)), [(0, 0)], ((0, 0), (1, False)), ((0, 0), (1, 0), (1, 0)), (0, 0)]:
            self.refuses(InvalidOperation, narrowed, two, none, lot[:2], (0, 0), rank, lesser)
        self.assertEqual(narrowed(two, none, lot[:2], (0, 0), rank, lot[:2]), rank)
        # Ranks for another edge, or another lot.
        self.refuses(InvalidOperation, narrowed, two, none, lot[:2], (1, 0), (rank[0], ((1, 0, 0), (1, 1, 0), (1, 1, 1))), lot[:2])
        self.refuses(InvalidOperation, ranks_added, two, none, lot, (0, 0), rank, rank)


def longer_sums(rank, times):
    return rank[0], tuple(tuple(times * number for number in told) for told in rank[1])


class RunsTest(Ranks):
    def test_how_often(self):
        # [8.2], along runs that are ended, stuck, or cut anywhere.
        many = longest = 0
        for turn in range(250):
            if turn % 3 == 0:
                made, _, lot, edge, _ = hidden.rank(self.draw)
                keep = empty_keep(made)
            elif turn % 3 == 1:
                made = hidden.stairs(self.draw.randint(1, 3))
                keep, lot, edge = empty_keep(made), edges(made), (0, 0)
            else:
                made, _, lot = self.drawn()
                keep, edge = greatest(made, usual(made))[0], self.draw.choice(lot)
            word, rank = rank_or_balance(made, keep, lot, edge)
            if word == "balance":
                continue
            inputs = tuple(self.draw.randint(-3, 9) for _ in range(made.functions[0][1]))
            if any(at(row, [1, *inputs]) < 0 for row in made.start_rows):
                continue
            for choices in list(each_run(made, inputs, 1, 5))[:20]:
                nest = Nest(made, inputs, choices[:self.draw.randint(0, len(choices))] if self.draw.random() < 0.3 else choices)
                for made_call in nest.calls:
                    times, ahead = 0, made_call
                    while ahead.above is not None and ahead.edge in lot:
                        times += ahead.edge == edge
                        ahead = ahead.above
                        most = max(0, 1 + at(rank[0][ahead.function], [1, *ahead.values]))
                        self.assertEqual(most, most_times(made, rank[0], ahead.function, ahead.values))
                        self.assertLessEqual(times, most)
                        many, longest = many + 1, max(longest, times)
        self.assertGreater(many, 500)
        self.assertGreater(longest, 3)

    def test_just_so_often(self):
        nest = Nest(DOWN, (9,), [(0, ())] * 9)
        self.assertEqual([made.values for made in nest.calls], [(number,) for number in range(9, -1, -1)])
        rank = rank_or_balance(DOWN, empty_keep(DOWN), LOT, (0, 0))[1]
        self.assertGreaterEqual(most_times(DOWN, rank[0], 0, (9,)), 9)


class MostTimesTest(Ranks):
    def test_values(self):
        forms = ((0, 1),)
        self.assertEqual([most_times(DOWN, forms, 0, (number,)) for number in (-3, -2, -1, 0, 1, 4)], [0, 0, 0, 1, 2, 5])
        two = System((("f", 0), ("g", 2)), ())
        self.assertEqual(most_times(two, ((3,), (LONG, -LONG, 1)), 1, (1, 5)), 6)
        self.assertEqual(most_times(two, ((3,), (LONG, -LONG, 1)), 0, ()), 4)
        self.assertEqual(most_times(two, ((-1,), (0, 0, 0)), 0, ()), 0)

    def test_errors(self):
        forms = ((0, 1),)
        for value in strange():
            if not isinstance(value, System):
                self.refuses(InvalidSystem, most_times, value, None, None, None)
            self.refuses(InvalidForm, most_times, DOWN, value, None, None)
            self.refuses(InvalidNumber, most_times, DOWN, forms, value, None, keeps={"given": value})
            self.refuses(InvalidOperation, most_times, DOWN, forms, 0, value)
        for value in near_misses((0, 1)):
            if not (isinstance(value, tuple) and len(value) == 2 and all(type(part) is int for part in value)):
                self.refuses(InvalidForm, most_times, DOWN, (value,), None, None)
        for value in near_misses((4,)):
            self.refuses(InvalidOperation, most_times, DOWN, forms, 0, value)
        for number in (-1, 1):
            self.refuses(InvalidNumber, most_times, DOWN, forms, number, None, keeps={"given": number})
        self.refuses(InvalidForm, most_times, DOWN, forms * 2, 0, (3,))


class ErrorsTest(Ranks):
    def calls(self):
        return [(rank_or_balance, ()), (is_rank, (RANK,)), (is_balance, (BALANCE,)), (narrowed, (None, None)), (ranks_added, (None, None))]

    def test_sequence(self):
        none = empty_keep(DOWN)
        for value in strange():
            if not isinstance(value, System):
                self.refuses(InvalidSystem, falling, value, None, None)
            self.refuses(InvalidKeep, falling, DOWN, value, None)
            if value != ():
                self.refuses(InvalidSystem, falling, DOWN, none, value)
            for call, more in self.calls():
                if not isinstance(value, System):
                    self.refuses(InvalidSystem, call, value, None, None, None, *more)
                self.refuses(InvalidKeep, call, DOWN, value, None, None, *more)
                if value != ():
                    self.refuses(InvalidSystem, call, DOWN, none, value, None, *more)
                self.refuses(InvalidSystem, call, DOWN, none, LOT, value, *more)
        two = System((("f", 1),), DOWN.rules * 2)
        for call, more in self.calls():
            self.refuses(InvalidOperation, call, two, none, LOT, (1, 0), *more)
            self.refuses(InvalidSystem, call, two, none, LOT, (2, 0), *more)
            self.refuses(InvalidSystem, call, two, none, LOT, (0, False), *more)
            self.refuses(InvalidSystem, call, two, none, ((1, 0), (0, 0)), (0, 0), *more)
            self.refuses(InvalidSystem, call, two, none, ((0, 0), (0, 0)), (0, 0), *more)
            self.refuses(InvalidOperation, call, two, none, (), (0, 0), *more)
        self.assertEqual(falling(two, none, ()), ())

    def test_too_many_is_told_last(self):
        made = System((("f", 1),), ((0, 0, ((-1, 1),) * 8, 1, ((0, ((-1, 1),)),), (0, 0, 0)),) * 17)
        none, lot = empty_keep(made), tuple((at, 0) for at in range(16))
        self.refuses(InvalidOperation, rank_or_balance, made, none, lot, (16, 0))
        self.refuses(InvalidSystem, rank_or_balance, made, none, lot, (17, 0))
        self.refuses(TooMany, rank_or_balance, made, none, lot, (0, 0), keeps={"limit": 120})

    def test_judges_take_everything(self):
        for value in strange():
            self.is_just(False, is_rank(SMALL, empty_keep(SMALL), LOT, (0, 0), value))
            self.is_just(False, is_balance(SMALL, empty_keep(SMALL), LOT, (0, 0), value))


if __name__ == "__main__":
    unittest.main()
