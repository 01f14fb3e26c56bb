import random
import unittest

from fallorflow.errors import InvalidChoice, InvalidForm, InvalidNumber, InvalidOperation, InvalidSystem, Refused, TooMany
from fallorflow.ever.rings import ever_choices, ever_or_break, first_break, is_ever, is_ring, round_of, rounds_from, shift_of
from fallorflow.rules.machine import Standing, each_run, is_run, run
from fallorflow.rules.system import System
from tests import draws, holding, papers
from tests.bending import bent, longer
from tests.draws import NAMES, form
from tests.judging import at
from tests.values import Refusing, near_misses, strange

LONG = 10 ** 80
GROW = System((("f", 2),), ((0, 1, ((0, 1, 0, 0), (-1, 0, 0, 1)), 1, ((0, ((0, 1, 0, 0), (0, 0, 1, 1))),), (0, 0, 0, 0, 0)),))
RING = ((0, ((1, 0, 0),)),)
PAPER = ((3, 0), (), RING, ((0, 1, 0),), ((1, 0, 1), (1, 0, 0), (1, 0, 1)))
DOWN = System((("f", 1),), ((0, 0, ((-2, 1),), 1, ((0, ((-3, 1),)),), (0, 0, 0)),))
LINK = ((0, ()),)
# x and y change places at each turn; twice is a shift.
SWAP = System((("f", 2),), ((0, 0, ((0, 1, 0),), 1, ((0, ((1, 0, 1), (-1, 1, 0))),), (0, 0, 0, 0)),))
# Counts down from x, then ends.
COUNT = System((("f", 1),), ((0, 0, ((-1, 1),), 1, ((0, ((-1, 1),)),), (0, 0, 0)), (0, 0, ((0, 0),), 0, ((0, ((0, 1),)),), (0, 0, 0)), (0, 0, (), 0, (), (0, 0))), ((0, 1),))


def shifting(draw):
    """Functions of as many parameters, the first calls of which add numbers; some exchange parameters."""
    many = draw.randint(0, 3)
    count = draw.randint(1, 3)
    functions = tuple((name, many) for name in draw.sample(NAMES, count))
    rules = []
    for index in range(draw.randint(count, count + 3)):
        function = index % count
        unknowns = draw.choice([0, 0, 1, 2])
        known = many + unknowns
        order = list(range(many))
        if draw.random() < 0.2:
            draw.shuffle(order)
        told = []
        for place in order:
            row = [draw.randint(-2, 2), *[int(spot == place) for spot in range(known)]]
            for spot in range(many, known):
                row[spot + 1] = draw.choice([0, 0, 1, -1])
            told.append(tuple(row))
        guard = tuple(form(draw, known, 3) for _ in range(draw.choice([0, 1, 2])))
        calls = ((draw.choice([(function + 1) % count, draw.randrange(count)]), tuple(told)),)
        if draw.random() < 0.3:
            calls = (*calls, (draw.randrange(count), tuple(form(draw, known + 1, 2) for _ in range(many))))
        rules.append((function, unknowns, guard, draw.randint(0, 2), calls, (0,) * (known + len(calls) + 1)))
    return System(functions, tuple(rules))


def some_ring(draw, system, most=8, size=2):
    """A drawn ring, None if none is found."""
    for _ in range(30):
        links, function = [], draw.randrange(len(system.functions))
        first = function
        while len(links) < most:
            fit = [index for index, rule in enumerate(system.rules) if rule[0] == function and rule[4]]
            if not fit:
                break
            index = draw.choice(fit)
            many = system.functions[function][1]
            picks = tuple(draw.choice([form(draw, many, size), (draw.randint(-size, size),) + (0,) * many]) for _ in range(system.rules[index][1]))
            links.append((index, picks))
            function = system.rules[index][4][0][0]
            if function == first and draw.random() < 0.6:
                return tuple(links)
    return None


def gone(system, ring, values):
    """What the rows of a round come to at values, in sequence, and the values behind it."""
    rows = []
    for index, picks in ring:
        known = [*values, *[at(pick, [1, *values]) for pick in picks]]
        rows += [at(row, [1, *known]) for row in system.rules[index][2]]
        values = tuple(at(told, [1, *known]) for told in system.rules[index][4][0][1])
    return rows, values


def rounds_one_by_one(system, ring, values, most):
    for number in range(most):
        rows, behind = gone(system, ring, values)
        broken = [index for index, told in enumerate(rows) if told < 0]
        if broken:
            return number, broken[0]
        values = behind
    return most, None


def is_own_ever(made, value):
    """What the document says of an ever paper, looked at once more."""
    try:
        papers.tuples(5, value)
        inputs, choices, ring, lot, sums = value
        papers.row(made.functions[0][1], inputs)
        papers.tuples(None, choices)
        papers.need(all(abs(number) < 10 ** 60 for number in inputs) and len(choices) <= 400)
        papers.need(all(at(row, [1, *inputs]) >= 0 for row in made.start_rows))
        papers.need(is_run(made, inputs, choices) and is_ring(made, ring))
        call = run(made, inputs, choices).call
        papers.need(call is not None and call[0] == made.rules[ring[0][0]][0])
        many = len(call[1])
        papers.tuples(None, lot)
        papers.need(len(lot) <= 64)
        for told in lot:
            papers.row(many + 1, told)
            papers.need(at(told, [1, *call[1]]) >= 0)
        rows = len(gone(made, ring, call[1])[0])
        papers.tuples(rows + len(lot), sums)
        for number, shown in enumerate(sums):
            if number < rows:
                papers.look_at_sum(lot, lambda values: gone(made, ring, tuple(values))[0][number], many, shown)
            else:
                papers.look_at_sum(lot, lambda values: at(lot[number - rows], [1, *gone(made, ring, tuple(values))[1]]), many, shown)
    except papers.Wrong:
        return False
    return True


class Rings(Refusing, unittest.TestCase):
    def setUp(self):
        self.draw = random.Random(131)

    def some(self):
        while True:
            made = self.draw.choice([shifting, shifting, draws.system])(self.draw)
            ring = some_ring(self.draw, made, self.draw.choice([1, 2, 3, 8]))
            if ring is not None:
                return made, ring

    def size(self, made, ring):
        return made.functions[made.rules[ring[0][0]][0]][1]


class RoundTest(Rings):
    def test_drawn(self):
        lengths = set()
        shifts = [0, 0]
        for _ in range(400):
            made, ring = self.some()
            lengths.add(len(ring))
            self.is_just(True, is_ring(made, ring))
            many = self.size(made, ring)
            rows = holding.forms_of(many, lambda values: gone(made, ring, tuple(values))[0])
            forms = holding.forms_of(many, lambda values: gone(made, ring, tuple(values))[1])
            self.assertEqual(round_of(made, ring), (rows, forms))
            is_shift = all(told[1:] == tuple(int(place == index) for place in range(many)) for index, told in enumerate(forms))
            self.assertEqual(shift_of(made, ring), tuple(told[0] for told in forms) if is_shift else None)
            shifts[is_shift] += 1
            # By the machine: where the rows hold, the links are taken, and values come as the forms tell.
            values = tuple(self.draw.randint(-4, 6) for _ in range(many))
            told, behind = gone(made, ring, values)
            self.look_at_machine(made, ring, values, all(number >= 0 for number in told), behind)
        self.assertEqual(lengths, set(range(1, 9)))
        self.assertGreater(min(shifts), 80)

    def look_at_machine(self, made, ring, values, can, behind):
        function = made.rules[ring[0][0]][0]
        if function != 0:
            return
        standing = Standing(System(made.functions, made.rules), values)
        try:
            for index, picks in ring:
                standing = standing.after((index, tuple(at(pick, [1, *standing.call[1]]) for pick in picks)))
        except Refused:
            self.assertFalse(can)
            return
        self.assertTrue(can)
        self.assertEqual(standing.call, (0, behind))

    def test_by_hand(self):
        self.assertEqual(round_of(SWAP, LINK), (((0, 1, 0),), ((1, 0, 1), (-1, 1, 0))))
        self.assertEqual((shift_of(SWAP, LINK), shift_of(SWAP, LINK * 2), shift_of(SWAP, LINK * 4)), (None, (0, 0), (0, 0)))
        self.assertEqual(round_of(SWAP, LINK * 2), (((0, 1, 0), (1, 0, 1)), ((0, 1, 0), (0, 0, 1))))
        nothing = System((("f", 0),), ((0, 1, ((0, 1),), 1, ((0, ()),), (0, 0, 0)),))
        self.assertEqual((round_of(nothing, ((0, ((5,),)),)), shift_of(nothing, ((0, ((5,),)),))), ((((5,),), ()), ()))
        self.assertEqual(shift_of(DOWN, LINK * 3), (-9,))

    def test_other_values(self):
        for value in [*strange(), RING[0], list(RING), (list(RING[0]),), ((0, ()),), ((0, ((1, 0, 0), (1, 0, 0))),), ((0, [(1, 0, 0)]),), ((0, ([1, 0, 0],)),), ((0, ((1, 0),)),),
                      ((0, ((1, 0, 0, 0),)),), ((0, ((1001, 0, 0),)),), ((0, ((0, 0, -1001),)),), ((0, ((True, 0, 0),)),), ((False, ((1, 0, 0),)),), ((1, ((1, 0, 0),)),),
                      ((-1, ((1, 0, 0),)),), ((0, ((1, 0, 0),), 0),), ((0,),), RING * 9, ((None, ((1, 0, 0),)),)]:
            self.is_just(False, is_ring(GROW, value), repr(value)[:200])
            for call, more in [(round_of, ()), (shift_of, ()), (rounds_from, ((3, 0), 1)), (first_break, ((3, 0),))]:
                self.refuses(InvalidOperation, call, GROW, value, *more)
        for value in [RING, RING * 8, ((0, ((1000, -1000, 1000),)),)]:
            self.is_just(True, is_ring(GROW, value))
        # A rule without a call, and links that do not lead to one another.
        self.is_just(False, is_ring(COUNT, ((2, ()),)))
        self.is_just(True, is_ring(COUNT, ((0, ()), (1, ()))))
        pair = System((("f", 0), ("g", 0)), ((0, 0, (), 0, ((1, ()),), (0, 0)), (1, 0, (), 0, ((0, ()),), (0, 0)), (1, 0, (), 0, ((1, ()), (0, ())), (0, 0, 0))))
        for ring, expected in [(((0, ()),), False), (((0, ()), (1, ())), True), (((1, ()), (0, ())), True), (((0, ()), (2, ()), (1, ())), True), (((0, ()), (2, ())), False), (((2, ()),), True)]:
            self.is_just(expected, is_ring(pair, ring), ring)


class BreaksTest(Rings):
    def test_drawn(self):
        seen = {"none": 0, "at once": 0, "soon": 0, "late": 0, "far": 0, "refused": 0}
        for _ in range(700):
            made, ring = self.some()
            size = self.draw.choice([3, 30, 2000])
            values = tuple(self.draw.randint(-3, size) for _ in range(self.size(made, ring)))
            most = self.draw.choice([0, 1, 5, 200])
            found = rounds_from(made, ring, values, most)
            self.assertEqual(found, rounds_one_by_one(made, ring, values, most))
            if shift_of(made, ring) is None:
                self.refuses(Refused, first_break, made, ring, values, keeps={"reason": ("shift",)})
                seen["refused"] += 1
                continue
            told = first_break(made, ring, values)
            if told is None:
                rows, behind = gone(made, ring, values)
                further, _ = gone(made, ring, behind)
                self.assertTrue(all(0 <= mine <= yours for mine, yours in zip(rows, further)))
                self.assertEqual(rounds_one_by_one(made, ring, values, 60), (60, None))
                seen["none"] += 1
            else:
                self.assertEqual(rounds_one_by_one(made, ring, values, 5000), told)
                number = told[0]
                seen["at once" if number == 0 else "soon" if number < 5 else "late" if number <= 200 else "far"] += 1
        self.assertGreater(min(seen.values()), 4, seen)

    def test_by_hand(self):
        self.assertEqual([rounds_from(DOWN, LINK, (10,), most) for most in (0, 1, 2, 3, 4, 200)], [(0, None), (1, None), (2, None), (3, None), (3, 0), (3, 0)])
        self.assertEqual([first_break(DOWN, LINK, (x,)) for x in (1, 2, 4, 5, 10 ** 60 - 1)], [(0, 0), (1, 0), (1, 0), (2, 0), ((10 ** 60 - 1 - 2) // 3 + 1, 0)])
        self.assertEqual([first_break(DOWN, LINK * 2, (x,)) for x in (1, 2, 5, 8)], [(0, 0), (0, 1), (1, 0), (1, 1)])
        # Two rows that break in one round: the first one is told; one that breaks earlier is told ahead of both.
        made = System((("f", 1),), ((0, 0, ((-2, 1), (-1, 1), (0, 1)), 1, ((0, ((-3, 1),)),), (0, 0, 0)),))
        self.assertEqual([first_break(made, LINK, (x,)) for x in (-1, 0, 1, 2, 3)], [(0, 0), (0, 0), (0, 0), (1, 0), (1, 0)])
        self.assertIsNone(first_break(SWAP, LINK * 2, (0, -1)))
        self.assertEqual(first_break(SWAP, LINK * 2, (0, -2)), (0, 1))

    def test_what_is_not_true(self):
        # [13.7]. Two hundred rounds, and no more.
        self.assertEqual((rounds_from(COUNT, LINK, (200,), 200), first_break(COUNT, LINK, (200,))), ((200, None), (200, 0)))
        # A run without an end in which nothing grows.
        self.assertIsNone(first_break(SWAP, LINK * 2, (5, 5)))
        # No shift, and no end: x is doubled.
        twice = System((("f", 1),), ((0, 0, ((0, 1),), 1, ((0, ((0, 2),)),), (0, 0, 0)),))
        self.assertEqual((shift_of(twice, LINK), rounds_from(twice, LINK, (1,), 200)), (None, (200, None)))
        self.is_just(True, is_ever(twice, ((1,), (), LINK, ((0, 1),), ((1, 0, 1), (1, 0, 2)))))


class EverTest(Rings):
    def some_run(self, made):
        inputs = tuple(self.draw.randint(-3, 8) for _ in range(made.functions[0][1]))
        if any(at(row, [1, *inputs]) < 0 for row in made.start_rows):
            return None
        found = list(each_run(made, inputs, 1, self.draw.randint(0, 3)))
        choices = self.draw.choice(found)
        return (inputs, choices[:self.draw.randint(0, len(choices))]) if choices else (inputs, ())

    def test_drawn(self):
        seen = {"ever": 0, "breaks": 0, "call": 0, "shift": 0}
        bends = [0, 0]
        for _ in range(500):
            made, ring = self.some()
            told = self.some_run(made)
            if told is None:
                continue
            inputs, choices = told
            call = run(made, inputs, choices).call
            if call is None or call[0] != made.rules[ring[0][0]][0]:
                self.refuses(Refused, ever_or_break, made, inputs, choices, ring, keeps={"reason": ("call",)})
                seen["call"] += 1
            elif shift_of(made, ring) is None:
                self.refuses(Refused, ever_or_break, made, inputs, choices, ring, keeps={"reason": ("shift",)})
                seen["shift"] += 1
            else:
                word, *found = ever_or_break(made, inputs, choices, ring)
                seen[word] += 1
                broken = first_break(made, ring, call[1])
                self.assertEqual(word, "ever" if broken is None else "breaks")
                if word == "breaks":
                    self.assertEqual(tuple(found), broken)
                    continue
                paper = found[0]
                self.assertEqual(paper[:3], (inputs, choices, ring))
                self.is_just(True, is_ever(made, paper))
                self.is_just(True, is_own_ever(made, paper))
                self.look_at_choices(made, paper)
                for value in [*bent(self.draw, paper, 10), (*paper[:3], longer(paper[3], LONG), paper[4])]:
                    expected = is_own_ever(made, value)
                    self.is_just(expected, is_ever(made, value), repr(value)[:300])
                    bends[expected] += 1
        self.assertGreater(min(seen.values()), 40, seen)
        self.assertGreater(min(bends), 30)

    def look_at_choices(self, made, paper):
        inputs, choices, ring = paper[:3]
        for rounds in (0, 1, self.draw.choice([2, 7, 200])):
            found = ever_choices(made, paper, rounds)
            self.assertEqual((len(found), found[:len(choices)]), (len(choices) + rounds * len(ring), choices))
            if len(found) <= 2000:
                self.is_just(True, is_run(made, inputs, found))

    def test_rows_that_are_no_shift(self):
        # The lot x >= 1 holds, and holds again when x is doubled and y grows by x.
        made = System((("f", 2),), ((0, 1, ((0, 1, 0, 0), (0, -1, 0, 1)), 1, ((0, ((0, 1, 0, 1), (0, 1, 1, 0))),), (0,) * 5),))
        ring = ((0, ((0, 1, 0),)),)
        paper = ((1, 5), (), ring, ((-1, 1, 0),), ((1, 1, 1), (1, 0, 0), (1, 1, 2)))
        self.is_just(True, is_ever(made, paper))
        self.is_just(True, is_own_ever(made, paper))
        self.refuses(Refused, ever_or_break, made, (1, 5), (), ring, keeps={"reason": ("shift",)})
        found = ever_choices(made, paper, 200)
        self.assertEqual((len(found), found[:3], found[-1]), (200, ((0, (1,)), (0, (2,)), (0, (4,))), (0, (2 ** 199,))))
        self.is_just(False, is_ever(made, ((0, 5), *paper[1:])))
        # A sum without a scale, a lot that holds nowhere: it does not hold at the values.
        self.is_just(False, is_ever(made, ((1, 5), (), ring, ((-1, 0, 0),), ((0, 1, 1),) * 3)))

    def test_long_ones(self):
        for number in (1, LONG):
            lot = ((0, number, 0),)
            sums = ((number, 0, 1), (1, 0, 0), (1, 0, 1))
            self.is_just(True, is_ever(GROW, ((3, 0), (), RING, lot, sums)))
            self.is_just(True, is_ever(GROW, ((3, 0), (), RING, lot, longer(sums, LONG))))
        self.is_just(False, is_ever(GROW, ((10 ** 60, 0), *PAPER[1:])))
        self.is_just(True, is_ever(GROW, ((10 ** 60 - 1, 0), *PAPER[1:])))
        self.is_just(False, is_ever(GROW, ((3, 0), ((0, (10 ** 60,)),), *PAPER[2:])))
        self.is_just(True, is_ever(GROW, ((3, 0), ((0, (10 ** 60 - 1,)),), *PAPER[2:])))

    def test_most_choices_and_rows(self):
        ring = ((1, ()),)
        for many, expected in [(400, True), (401, False)]:
            choices = ((0, ()),) * many
            paper = ((500,), choices, ring, (), ((1, 0),))
            self.is_just(expected, is_ever(COUNT, paper))
            self.is_just(True, is_run(COUNT, (500,), choices))
            if expected:
                self.is_just(True, is_ever(COUNT, ever_or_break(COUNT, (500,), choices, ring)[1]))
            else:
                self.refuses(TooMany, ever_or_break, COUNT, (500,), choices, ring, keeps={"limit": 400})
                self.refuses(InvalidOperation, ever_choices, COUNT, paper, 1)
                self.refuses(InvalidOperation, ever_or_break, COUNT, (500,), choices, None)
                self.refuses(TooMany, ever_or_break, COUNT, (500,), choices, ((0, ()), (1, ())), keeps={"limit": 400})
        for many in (0, 1, 64, 65):
            lot = ((0, 1, 0),) * many
            sums = ((1, 0, *[1] * min(many, 1), *[0] * (many - 1)), (1, *[0] * (many + 1)), *[(1, 0, *[int(place == at) for place in range(many)]) for at in range(many)])
            self.is_just(many in (1, 64), is_ever(GROW, ((3, 0), (), RING, lot, sums)))

    def test_greatest_round(self):
        # Eight links with eight rows each.
        made = System((("f", 1),), ((0, 0, ((0, 1),) * 8, 1, ((0, ((1, 1),)),), (0, 0, 0)),))
        word, paper = ever_or_break(made, (0,), (), LINK * 8)
        self.assertEqual((word, len(paper[4])), ("ever", len(paper[3]) + 64))
        self.is_just(True, is_ever(made, paper))
        self.is_just(True, is_own_ever(made, paper))

    def test_other_values(self):
        for value in [*strange(), PAPER[:4], (*PAPER, ()), list(PAPER), ([3, 0], *PAPER[1:]), ((3, 0), [], *PAPER[2:]), ((-3, 0), *PAPER[1:]), ((3, 0), ((0, (0,)),), *PAPER[2:]),
                      (*PAPER[:2], RING * 2, *PAPER[3:]), (*PAPER[:3], [(0, 1, 0)], PAPER[4]), (*PAPER[:4], list(PAPER[4])), (*PAPER[:4], PAPER[4][:2]), (*PAPER[:4], PAPER[4] * 2)]:
            self.is_just(False, is_ever(GROW, value), repr(value)[:200])
            self.refuses(InvalidOperation, ever_choices, GROW, value, 1)
        self.is_just(True, is_ever(GROW, PAPER))
        # Another ring, twice as long, needs further sums.
        self.is_just(True, is_ever(GROW, ((3, 0), (), RING * 2, ((0, 1, 0),), ((1, 0, 1), (1, 0, 0), (1, 0, 1), (1, 0, 0), (1, 0, 1)))))

    def test_behind_the_end(self):
        self.refuses(Refused, ever_or_break, COUNT, (0,), ((2, ()),), LINK, keeps={"reason": ("call",)})
        self.is_just(False, is_ever(COUNT, ((0,), ((2, ()),), ((1, ()),), (), ((1, 0),))))
        self.is_just(True, is_ever(COUNT, ((0,), (), ((1, ()),), (), ((1, 0),))))


class ErrorsTest(Rings):
    def test_sequence(self):
        for value in strange():
            if not isinstance(value, System):
                for call, more in [(is_ring, (None,)), (round_of, (None,)), (shift_of, (None,)), (rounds_from, (None, None, None)), (first_break, (None, None)),
                                   (ever_or_break, (None, None, None)), (is_ever, (None,)), (ever_choices, (None, None))]:
                    self.refuses(InvalidSystem, call, value, *more)
            self.refuses(InvalidForm, rounds_from, GROW, RING, value, None)
            self.refuses(InvalidForm, first_break, GROW, RING, value)
            self.refuses(InvalidNumber, rounds_from, GROW, RING, (3, 0), value, keeps={"given": value})
            self.refuses(InvalidNumber, ever_choices, GROW, PAPER, value, keeps={"given": value})
            self.refuses(InvalidForm, ever_or_break, GROW, value, None, None)
            if value != ():
                self.refuses(InvalidOperation, ever_or_break, GROW, (3, 0), value, None)
            self.refuses(InvalidOperation, ever_or_break, GROW, (3, 0), (), value)
        for number in (-1, 201):
            self.refuses(InvalidNumber, rounds_from, GROW, RING, (3, 0), number, keeps={"given": number})
            self.refuses(InvalidNumber, ever_choices, GROW, PAPER, number, keeps={"given": number})
        for value in near_misses((3, 0)):
            self.refuses(InvalidForm, rounds_from, GROW, RING, value, None)
            self.refuses(InvalidForm, first_break, GROW, RING, value)
        self.refuses(InvalidForm, first_break, SWAP, LINK, None)
        self.refuses(Refused, ever_or_break, COUNT, (-1,), None, None, keeps={"reason": ("given", 0)})
        self.refuses(Refused, ever_or_break, COUNT, (0,), ((0, ()),), None, keeps={"reason": ("choice", 0)})
        self.refuses(InvalidOperation, ever_or_break, COUNT, (0,), ((2, ()),), None)
        # No choice of the system: then the tuple is none of choices.
        self.refuses(InvalidOperation, ever_or_break, COUNT, (0,), ((3, ()),), LINK)
        self.refuses(InvalidChoice, Standing(COUNT, (0,)).after, (3, ()))


if __name__ == "__main__":
    unittest.main()
