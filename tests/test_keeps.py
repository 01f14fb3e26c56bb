import random
import unittest

from fallorflow.errors import InvalidForm, InvalidKeep, InvalidOperation, InvalidSystem, Refused, TooMany
from fallorflow.hold import keeps as module
from fallorflow.hold.keeps import duties, duty_parts, events, first_break, greatest, inductive, is_greatest_paper
from fallorflow.hold.keeps import is_inductive_paper, is_within, united, usual
from fallorflow.lots.rows import follows
from fallorflow.rules.machine import each_run
from fallorflow.rules.system import System, empty_keep
from tests import draws, holding, judging, walks
from tests.values import SMALL, Refusing, near_misses, strange

LONG = 10 ** 80
HALF = System((("half", 1),), (
    (0, 1, ((0, 1, -2), (1, -1, 2), (-1, 1, 0)), 1, ((0, ((0, 0, 1),)),), (1, 0, 0, 1)), (0, 0, ((0, -1),), 0, (), (0, 0))), ((0, 1),))
KEPT = ((((0, 1),),), (((0, 0, 1), (1, 2, -1)),))


def wide(rows, further=0):
    """A system of 80 rules without calls, and a keep of so many result rows and entry rows."""
    system = System((("f", 1),), ((0, 0, ((0, 1),), 0, (), (0, 1)),) * 80, ((0, 1),))
    lots = tuple((at, 1, 0) for at in range(rows))
    return system, ((tuple((at, 1) for at in range(further)),), (lots,))


def kept(draw, made, most=3):
    """A drawn keep in each lot of which all rows are unlike."""
    lots = []
    for further in (0, 1):
        lots.append(tuple(tuple(dict.fromkeys(draws.forms(draw, many + further, draw.randint(0, most), 2))) for _, many in made.functions))
    return tuple(lots)


def likely(draw, made):
    """Usual candidates, some of them, and drawn ones: keeps of which something is left."""
    found = []
    for side, lots in enumerate(usual(made)):
        more = kept(draw, made, 1)[side]
        found.append(tuple(tuple(dict.fromkeys([*[row for row in lot if draw.random() < 0.6], *further]))[:12] for lot, further in zip(lots, more)))
    return tuple(found)


def shrunk(system, keep, pick):
    """The greatest keep, looked for by taking out duties that do not follow, as they are picked."""
    while True:
        wrong = [duty for duty in holding.duties(system, keep) if follows(*holding.parts(system, keep, duty))[0] == "escapes"]
        if not wrong:
            return keep
        keep = without(system, keep, pick(wrong))


def without(system, keep, duty):
    word, *where = duty
    if word == "call":
        side, function = 0, system.rules[where[0]][4][where[1]][0]
    else:
        side, function = (0, 0) if word == "start" else (1, system.rules[where[0]][0])
    lots = [list(lot) for lot in keep]
    lots[side][function] = tuple(row for at, row in enumerate(keep[side][function]) if at != where[-1])
    return tuple(tuple(lot) for lot in lots)


def are_sums(system, keep, sums):
    found = holding.duties(system, keep)
    return len(found) == len(sums) and all(judging.is_sum(*holding.parts(system, keep, duty), told) for duty, told in zip(found, sums))


def does_show(system, keep, duty, point):
    many, rows, form = holding.parts(system, keep, duty)
    return judging.is_point(many, rows, point) and judging.at(form, point) < 0


class Keeps(Refusing, unittest.TestCase):
    def setUp(self):
        self.draw = random.Random(41)


class DutiesTest(Keeps):
    def test_constant(self):
        self.assertEqual(module.MOST_DUTIES, 400)

    def test_half(self):
        self.assertEqual(duties(HALF, KEPT), (("call", 0, 0, 0), ("end", 0, 0), ("end", 0, 1), ("end", 1, 0), ("end", 1, 1), ("start", 0)))
        self.assertEqual(duty_parts(HALF, KEPT, ("start", 0)), (1, ((0, 1),), (0, 1)))
        guard = ((0, 1, 0), (0, 1, -2), (1, -1, 2), (-1, 1, 0))
        self.assertEqual(duty_parts(HALF, KEPT, ("call", 0, 0, 0)), (2, guard, (0, 0, 1)))
        ahead = (*[(*row, 0) for row in guard], (0, 0, 0, 1), (1, 0, 2, -1))
        self.assertEqual(duty_parts(HALF, KEPT, ("end", 0, 1)), (3, ahead, (0, 2, 0, -1)))
        self.assertEqual(duties(HALF, empty_keep(HALF)), ())

    def test_drawn(self):
        for _ in range(200):
            made = draws.system(self.draw)
            keep = draws.keep(self.draw, made)
            self.assertEqual(duties(made, keep), tuple(holding.duties(made, keep)))
            for duty in duties(made, keep):
                self.assertEqual(duty_parts(made, keep, duty), holding.parts(made, keep, duty))

    def test_errors(self):
        for value in strange():
            if not isinstance(value, System):
                self.refuses(InvalidSystem, duties, value, None)
                self.refuses(InvalidSystem, duty_parts, value, None, None)
            self.refuses(InvalidKeep, duties, HALF, value)
            self.refuses(InvalidKeep, duty_parts, HALF, value, None)
            self.refuses(InvalidOperation, duty_parts, HALF, KEPT, value)
        for duty in [("call", 0, 0, 1), ("call", 0, 1, 0), ("call", 1, 0, 0), ("call", 0, 0), ("call", 0, 0, 0, 0), ("call", 0, 0, -1), ("call", -2, 0, 0),
                     ("end", 2, 0), ("end", 0, 2), ("end", 0, True), ("end", False, 0), ("end", 0), ("start", 1), ("start", -1), ("start", False),
                     ("start",), ("begin", 0), ["start", 0], (None, 0), (0, 0), ("start", 0, 0), "start", ("", 0), (("start",), 0)]:
            self.refuses(InvalidOperation, duty_parts, HALF, KEPT, duty)

    def test_most_duties(self):
        system, keep = wide(5)
        self.assertEqual(len(duties(system, keep)), 400)
        self.assertEqual(duty_parts(system, keep, ("end", 79, 4))[2], (4, 1))
        system, keep = wide(5, 1)
        for call in (duties, inductive, greatest):
            self.refuses(TooMany, call, system, keep, keeps={"limit": 400})
        self.refuses(TooMany, is_inductive_paper, system, keep, None, keeps={"limit": 400})
        self.refuses(TooMany, is_greatest_paper, system, keep, empty_keep(system), None, keeps={"limit": 400})
        self.refuses(TooMany, duty_parts, system, keep, ("end", 79, 4), keeps={"limit": 400})
        self.refuses(InvalidOperation, duty_parts, system, keep, ("end", 80, 0))
        # What is within can have too many itself, and is not asked.
        self.is_just(True, is_within(system, keep, keep))


class InductiveTest(Keeps):
    def test_half(self):
        word, sums = inductive(HALF, KEPT)
        self.assertEqual(word, "inductive")
        self.assertTrue(are_sums(HALF, KEPT, sums))
        self.assertEqual(inductive(HALF, empty_keep(HALF)), ("inductive", ()))
        bad = ((((0, 1), (-1, 1)),), KEPT[1])
        self.assertEqual(inductive(HALF, bad)[:2], ("not", ("call", 0, 0, 1)))

    def test_drawn(self):
        seen = {"inductive": 0, "not": 0}
        for _ in range(400):
            made = draws.system(self.draw)
            keep = self.draw.choice([kept, likely, draws.keep])(self.draw, made)
            found = inductive(made, keep)
            seen[found[0]] += len(holding.duties(made, keep)) > 0
            self.assertEqual(found, inductive(made, keep))
            self.is_just(True, is_inductive_paper(made, keep, found))
            if found[0] == "inductive":
                self.assertTrue(are_sums(made, keep, found[1]))
            else:
                _, duty, point = found
                self.assertTrue(does_show(made, keep, duty, point))
                for ahead in holding.duties(made, keep):
                    if ahead < duty:
                        self.assertEqual(follows(*holding.parts(made, keep, ahead))[0], "follows")
        self.assertGreater(min(seen.values()), 30)

    def test_any_duty_that_is_shown(self):
        shown = 0
        while shown < 60:
            made = draws.system(self.draw)
            keep = kept(self.draw, made)
            for duty in holding.duties(made, keep):
                word, point = follows(*holding.parts(made, keep, duty))
                if word == "escapes":
                    shown += 1
                    longer = tuple(LONG * number for number in point)
                    for value in (point, longer):
                        self.is_just(True, is_inductive_paper(made, keep, ("not", duty, value)))
                    for other in near_misses(point):
                        expected = isinstance(other, tuple) and len(other) == len(point) and all(part.__class__ is int for part in other)
                        self.is_just(expected and does_show(made, keep, duty, other), is_inductive_paper(made, keep, ("not", duty, other)))
                else:
                    some = (1,) * (holding.parts(made, keep, duty)[0] + 1)
                    self.is_just(False, is_inductive_paper(made, keep, ("not", duty, some)))

    def test_bent_sums(self):
        made, keep = HALF, KEPT
        _, sums = inductive(made, keep)
        longer = tuple(tuple(LONG * number for number in told) for told in sums)
        self.is_just(True, is_inductive_paper(made, keep, ("inductive", longer)))
        for at, told in enumerate(sums):
            for place in range(len(told)):
                for change in (1, -1, LONG):
                    bent = (*told[:place], told[place] + change, *told[place + 1:])
                    value = (*sums[:at], bent, *sums[at + 1:])
                    self.is_just(are_sums(made, keep, value), is_inductive_paper(made, keep, ("inductive", value)))
            for other in near_misses(told):
                if not isinstance(other, tuple) or len(other) != len(told) or any(part.__class__ is not int for part in other):
                    self.is_just(False, is_inductive_paper(made, keep, ("inductive", (*sums[:at], other, *sums[at + 1:]))))
            self.is_just(False, is_inductive_paper(made, keep, ("inductive", sums[:at] + sums[at + 1:])))
            self.is_just(False, is_inductive_paper(made, keep, ("inductive", (*sums[:at], told, *sums[at:]))))
        self.is_just(False, is_inductive_paper(made, keep, ("inductive", (*sums[1:], sums[0]))))
        for value in [*strange(), sums, ("inductive",), ("inductive", list(sums)), ["inductive", sums], ("inductive", sums, 0), ("not", sums),
                      ("not", ("start", 0), (1, 1)), ("not", ("start", 0)), ("not", None, None), ("greatest", sums), (("inductive",), sums), (None, sums)]:
            self.is_just(False, is_inductive_paper(made, keep, value), repr(value)[:200])
        # For another keep.
        self.is_just(False, is_inductive_paper(made, empty_keep(made), ("inductive", sums)))
        self.is_just(False, is_inductive_paper(made, keep, inductive(made, empty_keep(made))))

    def test_a_closed_duty(self):
        shut = System((("f", 1),), ((0, 0, ((-1, 1), (0, -1)), 0, ((0, ((7, 0),)),), (0, 0, 0)),))
        keep = ((((-9, 1), (0, 0)),), ((),))
        self.is_just(True, is_inductive_paper(shut, ((((0, 0),),), ((),)), ("inductive", ((0, 1, 0, 1, 1), (1, 0)))))
        self.is_just(False, is_inductive_paper(shut, ((((0, 0),),), ((),)), ("inductive", ((0, 0, 0, 1, 1), (1, 0)))))
        self.assertEqual(inductive(shut, keep)[:2], ("not", ("start", 0)))

    def test_errors(self):
        for value in strange():
            if not isinstance(value, System):
                self.refuses(InvalidSystem, inductive, value, None)
                self.refuses(InvalidSystem, is_inductive_paper, value, None, None)
            self.refuses(InvalidKeep, inductive, HALF, value)
            self.refuses(InvalidKeep, is_inductive_paper, HALF, value, None)


class RunsTest(Keeps):
    def test_events(self):
        choices = ((0, (1,)), (0, (0,)), (1, ()))
        told = (("enter", 0, (2,)), ("enter", 0, (1,)), ("enter", 0, (0,)), ("leave", 0, (0,), 0), ("leave", 0, (1,), 1), ("leave", 0, (2,), 2))
        self.assertEqual(events(HALF, (2,), choices), told)
        self.assertEqual(events(HALF, (2,), ()), told[:1])
        keep = ((((0, 1), (-2, 1)),), (((5, 0, 0), (-1, 0, 1)),))
        self.assertEqual(first_break(HALF, keep, (2,), choices), (1, 1))
        keep = ((((0, 1),),), (((5, 0, 0), (-1, 0, 1)),))
        self.assertEqual(first_break(HALF, keep, (2,), choices), (3, 1))
        self.assertIsNone(first_break(HALF, KEPT, (2,), choices))

    def drawn_runs(self, made, most=4):
        inputs = tuple(self.draw.randint(-2, 4) for _ in range(made.functions[0][1]))
        if all(judging.at(row, [1, *inputs]) >= 0 for row in made.start_rows):
            for choices in list(each_run(made, inputs, 1, most))[:12]:
                for cut in range(len(choices) + 1):
                    yield inputs, choices[:cut]

    def test_drawn(self):
        broken = whole = 0
        for _ in range(150):
            made = draws.system(self.draw)
            keep = kept(self.draw, made, 2)
            best = greatest(made, keep)[0]
            for inputs, choices in self.drawn_runs(made):
                walk = walks.Walk(made, inputs, choices)
                told = events(made, inputs, choices)
                rows = []
                for event in told:
                    side = 0 if event[0] == "enter" else 1
                    known = [1, *event[2], *event[3:]]
                    rows.append([judging.at(row, known) for row in keep[side][event[1]]])
                wrong = [(index, at) for index, lot in enumerate(rows) for at, number in enumerate(lot) if number < 0]
                self.assertEqual(first_break(made, keep, inputs, choices), wrong[0] if wrong else None)
                broken += bool(wrong)
                self.assertEqual([event[2] for event in told if event[0] == "enter"], [values for _, values in walk.made])
                self.assertEqual([event[1:] for event in told if event[0] == "leave"], walk.ends)
                # [6.3]
                self.assertIsNone(first_break(made, best, inputs, choices))
                whole += best != empty_keep(made)
        self.assertGreater(min(broken, whole), 100)

    def test_errors(self):
        for value in strange():
            if not isinstance(value, System):
                self.refuses(InvalidSystem, events, value, None, None)
                self.refuses(InvalidSystem, first_break, value, None, None, None)
            self.refuses(InvalidKeep, first_break, HALF, value, None, None)
            self.refuses(InvalidForm, events, HALF, value, None)
            self.refuses(InvalidForm, first_break, HALF, KEPT, value, None)
            if value != ():
                self.refuses(InvalidOperation, events, HALF, (3,), value)
                self.refuses(InvalidOperation, first_break, HALF, KEPT, (3,), value)
        self.refuses(Refused, events, HALF, (-1,), None, keeps={"reason": ("given", 0)})
        self.refuses(Refused, first_break, HALF, KEPT, (-1,), None, keeps={"reason": ("given", 0)})
        self.refuses(Refused, events, HALF, (1,), ((1, ()),), keeps={"reason": ("choice", 0)})
        self.refuses(Refused, first_break, HALF, KEPT, (1,), ((0, (0,)), (0, (0,))), keeps={"reason": ("choice", 1)})


class GreatestTest(Keeps):
    def test_drawn(self):
        drops = left = 0
        for _ in range(120):
            made = draws.system(self.draw)
            keep = self.draw.choice([kept, likely])(self.draw, made)
            best, (sums, taken) = greatest(made, keep)
            for pick in (lambda wrong: wrong[-1], self.draw.choice):
                self.assertEqual(shrunk(made, keep, pick), best)
            self.assertTrue(are_sums(made, best, sums))
            now = keep
            for duty, point in taken:
                self.assertTrue(does_show(made, now, duty, point))
                now = without(made, now, duty)
            self.assertEqual(now, best)
            self.is_just(True, is_within(made, keep, best))
            self.is_just(True, is_greatest_paper(made, keep, best, (sums, taken)))
            self.assertEqual(greatest(made, keep), (best, (sums, taken)))
            self.assertEqual(greatest(made, best)[0], best)
            drops, left = drops + len(taken), left + sum(map(len, (*best[0], *best[1])))
            self.look_at_papers(made, keep, best, sums, taken)
        self.assertGreater(min(drops, left), 200)

    def look_at_papers(self, made, keep, best, sums, taken):
        """What the reversed search finds, with long integers, is a paper, too; bent ones are none."""
        found, now = [], keep
        while now != best:
            wrong = [duty for duty in holding.duties(made, now) if follows(*holding.parts(made, now, duty))[0] == "escapes"]
            point = follows(*holding.parts(made, now, wrong[-1]))[1]
            found.append((wrong[-1], tuple(LONG * number for number in point)))
            now = without(made, now, wrong[-1])
        other = (tuple(tuple(LONG * number for number in told) for told in sums), tuple(found))
        self.is_just(True, is_greatest_paper(made, keep, best, other))
        if found:
            self.is_just(False, is_greatest_paper(made, keep, best, (sums, (*taken, *found[:1]))))
        for at in range(len(taken)):
            less = (sums, taken[:at] + taken[at + 1:])
            self.is_just(False, is_greatest_paper(made, keep, best, less))
            duty, point = taken[at]
            for bent in [(duty, (0, *point[1:])), (duty,), [duty, point], (duty, point, 0), (duty, None), (None, point), ((*duty[:-1], True), point)]:
                self.is_just(False, is_greatest_paper(made, keep, best, (sums, (*taken[:at], bent, *taken[at + 1:]))))
        if keep != best:
            self.is_just(False, is_greatest_paper(made, keep, keep, (sums, taken)))
            if best != empty_keep(made):
                self.is_just(False, is_greatest_paper(made, keep, empty_keep(made), ((), taken)))
        if sums:
            self.is_just(False, is_greatest_paper(made, keep, best, (sums[1:], taken)))

    def test_entries_lean_on_results(self):
        # The entry row of g follows from the result row, and this from nothing else: both stay.
        system = System((("f", 0), ("g", 1), ("h", 0)), (
            (0, 0, (), 0, ((2, ()), (1, ((0, 1),))), (0, 0, 0)), (2, 0, (), 0, (), (4,)), (1, 0, (), 0, (), (0, 1))))
        keep = (((), ((0, 1),), ()), ((), ((0, 0, 1),), ((-4, 1), (-5, 1))))
        self.assertEqual(greatest(system, keep)[0], (((), ((0, 1),), ()), ((), ((0, 0, 1),), ((-4, 1),))))

    def test_other_values(self):
        best, paper = greatest(HALF, KEPT)
        self.assertEqual((best, paper[1]), (KEPT, ()))
        for value in [*strange(), paper[0], (paper[0],), list(paper), (list(paper[0]), ()), (paper[0], []), (*paper, ()), (paper[0], (None,)),
                      (paper[0], ((("start", 0), (1, 1)),)), (None, ())]:
            self.is_just(False, is_greatest_paper(HALF, KEPT, KEPT, value), repr(value)[:200])

    def test_errors(self):
        twice = ((((0, 1), (0, 1)),), ((),))
        for value in [*strange(), twice]:
            if not isinstance(value, System):
                self.refuses(InvalidSystem, greatest, value, None)
                self.refuses(InvalidSystem, is_greatest_paper, value, None, None, None)
                self.refuses(InvalidSystem, is_within, value, None, None)
                self.refuses(InvalidSystem, usual, value)
            self.refuses(InvalidKeep, greatest, HALF, value)
            self.refuses(InvalidKeep, is_greatest_paper, HALF, value, None, None)
            if value != twice:
                self.refuses(InvalidKeep, is_greatest_paper, HALF, KEPT, value, None)
                self.refuses(InvalidKeep, is_within, HALF, value, None)
        self.is_just(False, is_greatest_paper(HALF, KEPT, twice, ((), ())))
        self.refuses(InvalidKeep, greatest, HALF, (KEPT[0], (((0, 0, 1), (0, 0, 1)),)))

    def test_is_within(self):
        rows = tuple((at, 1) for at in range(4))
        for some, expected in [((), True), ((0,), True), ((0, 3), True), ((1, 2, 3), True), ((0, 1, 2, 3), True), ((1, 0), False), ((0, 0), False),
                               ((3, 2), False), ((0, 1, 2, 3, 3), False)]:
            lot = tuple(rows[at] for at in some)
            self.is_just(expected, is_within(HALF, ((rows,), ((),)), ((lot,), ((),))))
            result = tuple((*row, 5) for row in rows)
            self.is_just(expected, is_within(HALF, (((),), (result,)), (((),), (tuple(result[at] for at in some),))))
        self.is_just(False, is_within(HALF, ((rows,), ((),)), ((((9, 9),),), ((),))))
        self.is_just(True, is_within(HALF, ((rows + rows[:1],), ((),)), (((rows[3], rows[0]),), ((),))))
        for value in strange():
            self.is_just(False, is_within(HALF, KEPT, value))

    def test_what_is_not_true(self):
        # [6.6]. A row that was taken out holds in each run: the run of DOWN from 2 is at 2, 1, 0.
        down = System((("f", 1),), ((0, 0, ((-1, 1), (1, -1)), 0, ((0, ((-1, 1),)),), (0, 0, 0)),), ((-1, 1), (1, -1)))
        rows = (((2, -1), (0, 1), (0, 2)),)
        self.assertEqual(greatest(down, (rows, ((),)))[0], (rows, ((),)))
        swap = System((("f", 2),), ((0, 0, ((-1, 1, 1),), 0, ((0, ((0, 0, 1), (0, 1, 0))),), (0, 0, 0, 0)),), ((0, 1, 0), (0, 0, 1)))
        both = ((((0, 1, 0), (0, 0, 1)),), ((),))
        self.assertEqual(inductive(swap, both)[0], "inductive")
        self.assertEqual(inductive(swap, ((((0, 1, 0),),), ((),)))[0], "not")
        self.assertEqual(greatest(swap, ((((0, 1, 0),),), ((),)))[0], empty_keep(swap))
        self.assertEqual(greatest(swap, both)[0], both)
        turn = System((("f", 1),), ((0, 0, ((5, -1), (-5, 1)), 0, ((0, ((-9, 1),)),), (0, 0, 0)),), ((0, 1), (0, -1)))
        self.assertEqual(greatest(turn, ((((0, 1),),), ((),)))[0], empty_keep(turn))
        self.assertTrue(all(first_break(turn, ((((0, 1),),), ((),)), (0,), run) is None for run in each_run(turn, (0,), 1, 9)))


class UnitedTest(Keeps):
    def test_drawn(self):
        common = further = 0
        for _ in range(200):
            made = draws.system(self.draw)
            (one, (first, _)), (other, (second, _)) = (greatest(made, likely(self.draw, made)) for _ in range(2))
            lots = [[(*lot, *[row for row in more if row not in lot]) for lot, more in zip(one[side], other[side])] for side in (0, 1)]
            if max(map(len, lots[0] + lots[1])) > 12:
                self.refuses(TooMany, united, made, one, first, other, second, keeps={"limit": 12})
                continue
            union, sums = united(made, one, first, other, second)
            self.assertEqual(union, tuple(tuple(lot) for lot in lots))
            self.assertTrue(are_sums(made, union, sums))
            self.is_just(True, is_inductive_paper(made, union, ("inductive", sums)))
            sizes = [sum(map(len, (*keep[0], *keep[1]))) for keep in (one, other, union)]
            common += sizes[2] < sizes[0] + sizes[1]
            further += sizes[2] > sizes[0]
            self.assertEqual(united(made, one, first, one, first), (one, united(made, one, first, one, first)[1]))
        self.assertGreater(min(common, further), 15)

    def test_rows_that_stand_twice(self):
        one, other = ((((0, 1),),), ((),)), ((((0, 1), (0, 1)),), ((),))
        first, second = inductive(HALF, one)[1], inductive(HALF, other)[1]
        for keep, sums in ((one, first), (other, second)):
            union, found = united(HALF, one, first, keep, sums)
            self.assertEqual(union, one)
            self.assertTrue(are_sums(HALF, union, found))
            union, found = united(HALF, other, second, keep, sums)
            self.assertEqual(union, other)
            self.assertTrue(are_sums(HALF, union, found))
        bare = System((("f", 1),), ())
        single = (((),), (((0, 0, 1),),))
        self.assertEqual(united(bare, empty_keep(bare), (), single, ()), (single, ()))

    def test_twelve_rows(self):
        bare = System((("f", 1),), ())
        rows = tuple((at, 0, 1) for at in range(13))
        one, other = (((),), (rows[:7],)), (((),), (rows[5:12],))
        self.assertEqual(united(bare, one, (), other, ()), ((((),), (rows[:12],)), ()))
        self.refuses(TooMany, united, bare, one, (), (((),), (rows[6:13],)), (), keeps={"limit": 12})

    def test_too_many_duties(self):
        system = System((("f", 1),), ((0, 0, ((0, 1),), 0, (), (0, 1)),) * 80, ((0, 1),))
        one = (((),), (tuple((at, 1, 0) for at in range(3)),))
        other = (((),), (tuple((at, 1, 0) for at in range(3, 5)),))
        more = (((),), (tuple((at, 1, 0) for at in range(3, 6)),))
        sums = [inductive(system, keep)[1] for keep in (one, other, more)]
        union, found = united(system, one, sums[0], other, sums[1])
        self.assertEqual(len(found), 400)
        self.assertTrue(are_sums(system, union, found))
        self.refuses(TooMany, united, system, one, sums[0], more, sums[2], keeps={"limit": 400})

    def test_errors(self):
        sums = inductive(HALF, KEPT)[1]
        bad = ((((-1, 1),),), ((),))
        for value in strange():
            if not isinstance(value, System):
                self.refuses(InvalidSystem, united, value, None, None, None, None)
            self.refuses(InvalidKeep, united, HALF, value, None, None, None)
            self.refuses(InvalidOperation, united, HALF, KEPT, value, None, None)
            self.refuses(InvalidKeep, united, HALF, KEPT, sums, value, None)
            self.refuses(InvalidOperation, united, HALF, KEPT, sums, KEPT, value)
        self.refuses(InvalidOperation, united, HALF, bad, ((1, 0, 0, 0, 0, 0, 0),), KEPT, sums)
        self.refuses(InvalidOperation, united, HALF, KEPT, sums, bad, sums)
        for at, told in enumerate(sums):
            for place in range(len(told)):
                bent = (*sums[:at], (*told[:place], told[place] + 1, *told[place + 1:]), *sums[at + 1:])
                if not are_sums(HALF, KEPT, bent):
                    self.refuses(InvalidOperation, united, HALF, KEPT, bent, None, None)
                    self.refuses(InvalidOperation, united, HALF, KEPT, sums, KEPT, bent)
        long = tuple(tuple(LONG * number for number in told) for told in sums)
        self.assertEqual(united(HALF, KEPT, long, KEPT, sums)[0], KEPT)


class UsualTest(Keeps):
    def rows(self, many):
        """All of them, by their meaning at units."""
        unit = [tuple(1 if place == at + 1 else 0 for place in range(many + 1)) for at in range(many)]
        found = list(unit)
        found += [tuple(mine - yours for mine, yours in zip(unit[u], unit[v])) for u in range(many) for v in range(many) if u != v]
        return tuple((found + [tuple(-number for number in row) for row in unit])[:12])

    def test_usual(self):
        self.assertEqual(usual(System((("f", 0),), ())), (((),), (((0, 1), (0, -1)),)))
        self.assertEqual(usual(System((("f", 2),), ()))[0][0],
                         ((0, 1, 0), (0, 0, 1), (0, 1, -1), (0, -1, 1), (0, -1, 0), (0, 0, -1)))
        for many in range(6):
            found = usual(System((("f", 0), ("g", many)), ()))
            self.assertEqual((found[0][1], found[1][1]), (self.rows(many), self.rows(many + 1)))
            self.assertEqual(len(found[0][1]), min(12, many * (many + 1)))
        self.assertEqual(len(self.rows(3)), 12)
        self.assertEqual(self.rows(4)[-1], (0, 0, -1, 1, 0))

    def test_arguments_stay(self):
        wrong = [[(0, 1)]]
        self.refuses(InvalidKeep, greatest, SMALL, wrong)
        self.assertEqual(wrong, [[(0, 1)]])


if __name__ == "__main__":
    unittest.main()
