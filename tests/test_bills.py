import random
import unittest

from fallorflow.bills import bills as module
from fallorflow.bills.bills import allowed, billed, due, is_bill, is_crop, item_rows, items_of, spent
from fallorflow.errors import InvalidForm, InvalidKeep, InvalidNumber, InvalidOperation, InvalidSystem, Refused, TooMany
from fallorflow.hold.keeps import greatest, usual
from fallorflow.rules.machine import each_run
from fallorflow.rules.system import System, empty_keep
from tests import draws, hidden, papers
from tests.bending import bent, longer
from tests.judging import at
from tests.nested import Nest
from tests.values import Refusing, near_misses, strange

LONG = 10 ** 80
HALVES = System((("f", 1),), ((0, 2, ((-1, 1, 0, 0), (0, 0, 1, 0), (0, 0, 0, 1), (-1, 1, -1, -1), (1, -1, 1, 1)), 1,
                               ((0, ((0, 0, 1, 0),)), (0, ((0, 0, 0, 1, 0),))), (0,) * 6),), ((0, 1),))
TWINS = System((("f", 1),), ((0, 0, ((-1, 1),), 1, ((0, ((-1, 1),)), (0, ((-1, 1, 0),))), (0,) * 4),), ((0, 1),))
HELD = ((((0, 1),),), ((),))
BILL = ("bill", 1, ((0, 1),), ((1, 0, 1),), ((1, 0, 0, 0, 0, 1, 1, 0), (1, 0, 0, 0, 0, 0, 1, 0)))
CROP = ("crop", (None, ((1, 2, 0), (1, 2, 0))), (((1, 0), (1, 0)),))


def equations(made, lot=None):
    """How many numbers the forms of named functions and of items have together."""
    prices = papers.Prices(made, lot)
    named = set()
    for item in prices.items:
        named |= {made.rules[item[0]][0]} | {made.rules[item[0]][4][number][0] for number in prices.calls(item)}
    keep = empty_keep(made)
    return sum(made.functions[function][1] + 1 for function in named) + sum(prices.parts(keep, item)[0] + 1 for item in prices.items)


def some_keep(draw, made):
    kind = draw.random()
    if kind < 0.4:
        return draws.keep(draw, made)
    return usual(made) if kind < 0.6 else greatest(made, usual(made))[0]


class Bills(Refusing, unittest.TestCase):
    def setUp(self):
        self.draw = random.Random(101)

    def drawn(self):
        while True:
            made = draws.system(self.draw, self.draw.randint(1, 3), self.draw.randint(1, 5))
            if equations(made) <= 80:
                return made, some_keep(self.draw, made)

    def inputs(self, made):
        """Drawn inputs at which the start rows hold, None if none are found."""
        for _ in range(20):
            found = tuple(self.draw.randint(-3, 6) for _ in range(made.functions[0][1]))
            if all(at(row, [1, *found]) >= 0 for row in made.start_rows):
                return found
        return None

    def runs(self, made, most=4):
        """Drawn runs, some of them cut."""
        inputs = self.inputs(made)
        if inputs is not None:
            for choices in list(each_run(made, inputs, 1, most))[:15]:
                yield inputs, choices
                yield inputs, choices[:self.draw.randint(0, len(choices))]

    def answer(self, made, keep):
        word, *_ = found = billed(made, keep)
        prices = papers.Prices(made)
        self.assertIn(word, ("bill", "crop"))
        self.is_just(word == "bill", papers.is_bill(prices, keep, "bill", found))
        self.is_just(word == "bill", is_bill(made, keep, found))
        self.is_just(word == "crop", papers.is_crop(prices, keep, "crop", found))
        self.is_just(word == "crop", is_crop(made, keep, found))
        return found


class ItemsTest(Bills):
    def test_constant(self):
        self.assertEqual(module.MOST_EQUATIONS, 80)

    def test_drawn(self):
        for _ in range(150):
            made, keep = self.drawn()
            self.assertEqual(items_of(made), tuple(papers.items(made)))
            prices = papers.Prices(made)
            forms = tuple(draws.form(self.draw, many, 5) for _, many in made.functions)
            scale = self.draw.randint(1, 4)
            for item in items_of(made):
                self.assertEqual(item_rows(made, keep, item), prices.parts(keep, item))
                many = prices.parts(keep, item)[0]
                told = due(made, scale, forms, item)
                self.assertEqual(len(told), many + 1)
                for _ in range(4):
                    values = [self.draw.randint(-9, 9) for _ in range(many)]
                    self.assertEqual(at(told, [1, *values]), prices.due_at(scale, forms, item, values))

    def test_told(self):
        plain = System((("f", 1), ("g", 0)), ((0, 1, ((0, 1, 2),), 7, (), (0, 0, 1)), (1, 0, (), 3, ((0, ((4,),)), (0, ((5, 6),))), (0, 0, 0))))
        keep = ((((1, 1),), ()), (((2, 3, 4),), ()))
        self.assertEqual(items_of(plain), ((0, 0), (1, 1), (1, 2)))
        self.assertEqual(item_rows(plain, keep, (0, 0)), (2, ((1, 1, 0), (0, 1, 2))))
        self.assertEqual(item_rows(plain, keep, (1, 1)), (0, ()))
        self.assertEqual(item_rows(plain, keep, (1, 2)), (1, ((14, 4),)))
        forms = ((10, 100), (1000,))
        self.assertEqual([due(plain, 2, forms, item) for item in items_of(plain)], [(-4, 100, 0), (1000 - 6 - 410,), (1000 - 6 - 410 - 510, -600)])
        self.assertEqual(items_of(System((("f", 0),), ())), ())

    def test_errors(self):
        none = empty_keep(TWINS)
        for value in strange():
            if not isinstance(value, System):
                self.refuses(InvalidSystem, items_of, value)
                self.refuses(InvalidSystem, item_rows, value, None, None)
                self.refuses(InvalidSystem, due, value, None, None, None)
            self.refuses(InvalidKeep, item_rows, TWINS, value, None)
            self.refuses(InvalidOperation, item_rows, TWINS, none, value)
            self.refuses(InvalidNumber, due, TWINS, value, None, None, keeps={"given": value})
            self.refuses(InvalidForm, due, TWINS, 1, value, None)
            self.refuses(InvalidOperation, due, TWINS, 1, ((0, 1),), value)
        for number in (0, -1, 10 ** 60):
            self.refuses(InvalidNumber, due, TWINS, number, None, None, keeps={"given": number})
        self.assertEqual(due(TWINS, 10 ** 60 - 1, ((0, 0),), (0, 1)), (1 - 10 ** 60, 0))
        for form in near_misses((0, 1)):
            self.refuses(InvalidForm, due, TWINS, 1, (form,), None)
        for forms in [(), ((0, 1), (0, 1)), [(0, 1)], ((0, 10 ** 60),)]:
            self.refuses(InvalidForm, due, TWINS, 1, forms, None)
        for item in [(0, 0), (0, 3), (1, 1), (-1, 1), (0, True), (False, 1), [0, 1], (0,), (0, 1, 0), (0, -1)]:
            self.refuses(InvalidOperation, item_rows, TWINS, none, item)
            self.refuses(InvalidOperation, due, TWINS, 1, ((0, 1),), item)


class EitherOrTest(Bills):
    def test_drawn(self):
        seen = {"bill": 0, "crop": 0}
        for _ in range(400):
            made, keep = self.drawn()
            found = self.answer(made, keep)
            seen[found[0]] += 1
            self.assertEqual(found, billed(made, keep))
        self.assertGreater(min(seen.values()), 60)

    def test_hidden(self):
        for _ in range(150):
            made, keep, known = hidden.bill(self.draw)
            self.is_just(True, is_bill(made, keep, known))
            self.assertEqual(self.answer(made, keep)[0], "bill")
            made, keep, known = hidden.crop(self.draw)
            self.is_just(True, is_crop(made, keep, known))
            self.assertEqual(self.answer(made, keep)[0], "crop")

    def test_first_calls(self):
        # f calls h, and then itself; h never ends, is stuck, or ends: the second call counts if results can come.
        def calling(*inner, cost=1):
            return System((("f", 0), ("h", 0)), ((0, 0, (), cost, ((1, ()), (0, ())), (0, 0, 0)), *inner))
        never = ((), ()), ((), ((-1, 0), (0, -1)))
        shut = ((), ()), ((), ((-1, 0),))
        ends = calling((1, 0, (), 1, (), (0,)))
        stuck = calling()
        forever = calling((1, 0, (), 0, ((1, ()),), (0, 0)))
        self.assertEqual(self.answer(ends, empty_keep(ends))[0], "crop")
        # By rows that say nothing of results the call behind counts; by rows that close it, it does not.
        for made in (stuck, forever):
            self.assertEqual(self.answer(made, empty_keep(made))[0], "crop")
            for keep in (never, shut):
                self.assertEqual(self.answer(made, keep)[0], "bill")
        # It does not free what it costs itself.
        dear = calling((1, 0, (), 1, ((1, ()),), (0, 0)))
        self.assertEqual(self.answer(dear, shut)[0], "crop")

    def test_costs_of_nothing(self):
        for made in (HALVES, TWINS, *[self.drawn()[0] for _ in range(40)]):
            free = System(made.functions, tuple((*rule[:3], 0, *rule[4:]) for rule in made.rules), made.start_rows)
            self.assertEqual(self.answer(free, empty_keep(free))[0], "bill")
        bare = System((("f", 1), ("g", 0)), ())
        self.assertEqual(self.answer(bare, empty_keep(bare))[0], "bill")
        self.is_just(True, is_bill(bare, empty_keep(bare), ("bill", 3, ((4, 0), (0,)), ((2, 8), (5, 0)), ())))
        self.is_just(False, is_bill(bare, empty_keep(bare), ("bill", 3, ((4, 1), (0,)), ((2, 8), (5, 0)), ())))

    def test_closed(self):
        # Entry rows that hold nowhere, and items behind a guard that does not.
        spin = System((("f", 1),), ((0, 0, (), 5, ((0, ((0, 1),)),), (0, 0, 0)),))
        self.assertEqual(self.answer(spin, empty_keep(spin))[0], "crop")
        shut = ((((-3, 2), (1, -1)),), ((),))
        found = self.answer(spin, shut)
        self.assertEqual((found[0], found[3][0][0], found[4][0][0]), ("bill", 0, 0))
        self.is_just(True, is_bill(spin, shut, ("bill", 1, ((-7, 9),), ((0, 1, 1, 2),), ((0, LONG, LONG, 2 * LONG),))))
        guarded = System((("f", 1),), ((0, 0, ((-3, 2), (1, -1)), 5, ((0, ((0, 1),)),), (0, 0, 0)),))
        self.assertEqual(self.answer(guarded, empty_keep(guarded))[0], "bill")
        half = System((("f", 1),), ((0, 0, ((-1, 2), (1, -2)), 5, ((0, ((0, 1),)),), (0, 0, 0)),))
        self.assertEqual(self.answer(half, empty_keep(half))[0], "crop")

    def many(self, count, parameters=0):
        """So many rules without calls, of one function."""
        return System((("f", parameters),), ((0, 0, (), 1, (), (0,) * (parameters + 1)),) * count)

    def test_most_equations(self):
        for made, total in [(self.many(79), 80), (self.many(80), 81), (self.many(12, 5), 78), (self.many(13, 5), 84)]:
            self.assertEqual(equations(made), total)
            if total <= 80:
                self.assertEqual(self.answer(made, empty_keep(made))[0], "bill")
            else:
                self.refuses(TooMany, billed, made, empty_keep(made), keeps={"limit": 80})
                many = made.functions[0][1]
                paper = ("bill", 1, ((1,) + (0,) * many,), ((1, 1),), ((1, 0),) * len(made.rules))
                self.is_just(True, is_bill(made, empty_keep(made), paper))
        # Functions that only are called count, those that nothing names do not.
        called = System((("f", 0), ("g", 5), ("h", 5)), ((0, 0, (), 1, ((1, ((0,),) * 5),), (0, 0)),) * 73)
        self.assertEqual(equations(called), 80)
        self.assertEqual(self.answer(called, empty_keep(called))[0], "bill")
        more = System(called.functions, called.rules + called.rules[:1])
        self.refuses(TooMany, billed, more, empty_keep(more), keeps={"limit": 80})
        # A second call is a second item, with one unknown more.
        twice = System((("f", 0),), ((0, 0, (), 1, ((0, ()), (0, ())), (0, 0, 0)),) * 26 + ((0, 0, (), 1, ((0, ()),), (0, 0)),))
        self.assertEqual(equations(twice), 80)
        self.assertEqual(self.answer(twice, empty_keep(twice))[0], "crop")

    def test_what_is_not_true(self):
        # [10.6]. A crop, and no run costs more than 1: it is open at a half.
        half = System((("f", 1),), ((0, 0, ((-1, 2), (1, -2)), 5, ((0, ((0, 1),)),), (0, 0, 0)),))
        self.assertEqual({run for number in range(-3, 4) for run in each_run(half, (number,), 0, 3)}, {()})
        # Forms that pay each rule with all of its calls, where results of the first call never come.
        dear = System((("f", 0), ("h", 0)), ((0, 0, (), 0, ((1, ()), (0, ())), (0, 0, 0)), (1, 0, (), 1, ((1, ()),), (0, 0))))
        self.assertEqual(billed(dear, (((), ()), ((), ((-1, 0),))))[0], "crop")
        # What ends not, and costs nothing.
        spin = System((("f", 0),), ((0, 0, (), 0, ((0, ()),), (0, 0)),))
        self.assertEqual(self.answer(spin, empty_keep(spin))[0], "bill")


class JudgesTest(Bills):
    def look_at_bent(self, made, keep, found):
        prices = papers.Prices(made)
        for value in bent(self.draw, found, 14):
            self.is_just(papers.is_bill(prices, keep, "bill", value), is_bill(made, keep, value), repr(value)[:300])
            self.is_just(papers.is_crop(prices, keep, "crop", value), is_crop(made, keep, value), repr(value)[:300])

    def test_bent(self):
        for _ in range(60):
            made, keep = self.drawn()
            found = billed(made, keep)
            self.look_at_bent(made, keep, found)
            further = draws.keep(self.draw, made)
            prices = papers.Prices(made)
            self.is_just(papers.is_bill(prices, further, "bill", found), is_bill(made, further, found))
            self.is_just(papers.is_crop(prices, further, "crop", found), is_crop(made, further, found))
            made, keep, known = hidden.bill(self.draw)
            self.look_at_bent(made, keep, known)
            made, keep, known = hidden.crop(self.draw)
            self.look_at_bent(made, keep, known)

    def test_long_ones(self):
        for _ in range(40):
            made, keep, (word, scale, forms, entries, dues) = hidden.bill(self.draw)
            long = (word, LONG * scale, longer(forms, LONG), *[tuple((told[0], *longer(told[1:], LONG)) for told in lot) for lot in (entries, dues)])
            self.is_just(True, is_bill(made, keep, long))
            self.is_just(True, is_bill(made, keep, (word, scale, forms, longer(entries, LONG), longer(dues, LONG))))
            made, keep, known = hidden.crop(self.draw)
            self.is_just(True, is_crop(made, keep, longer(known, LONG)))

    def test_other_values(self):
        for value in [*strange(), BILL[1:], list(BILL), (*BILL, ()), ("shared", *BILL[1:]), (("bill",), *BILL[1:]), (None, *BILL[1:]), CROP,
                      ("bill", 0, *BILL[2:]), ("bill", True, *BILL[2:]), ("bill", 1, list(BILL[2]), *BILL[3:]), ("bill", 1, BILL[2], BILL[3], BILL[4][:1])]:
            self.is_just(False, is_bill(HALVES, HELD, value), repr(value)[:200])
        for value in [*strange(), CROP[1:], list(CROP), (*CROP, ()), ("split", *CROP[1:]), (("crop",), *CROP[1:]), BILL, ("crop", CROP[2], CROP[1]),
                      ("crop", (None, None), (None,)), ("crop", ((None,) * 2), CROP[2]), ("crop", CROP[1], (None,)), ("crop", CROP[1][:1], CROP[2])]:
            self.is_just(False, is_crop(TWINS, HELD, value), repr(value)[:200])
        self.is_just(True, is_bill(HALVES, HELD, BILL))
        self.is_just(True, is_crop(TWINS, HELD, CROP))
        # A crop of steps that cost nothing.
        free = System(TWINS.functions, tuple((*rule[:3], 0, *rule[4:]) for rule in TWINS.rules), TWINS.start_rows)
        self.is_just(False, is_crop(free, HELD, CROP))

    def test_errors(self):
        for value in strange():
            for call, more in [(billed, ()), (is_bill, (BILL,)), (is_crop, (CROP,))]:
                if not isinstance(value, System):
                    self.refuses(InvalidSystem, call, value, None, *more)
                self.refuses(InvalidKeep, call, TWINS, value, *more)


class RunsTest(Bills):
    def test_spent(self):
        many = 0
        for _ in range(200):
            made, _ = self.drawn()
            for inputs, choices in self.runs(made):
                nest = Nest(made, inputs, choices)
                self.assertEqual(spent(made, inputs, choices), tuple(nest.paid(call) for call in nest.calls))
                many += len(nest.calls) > 3
        self.assertGreater(many, 100)

    def test_no_call_costs_more(self):
        # [10.3], for keeps that hold.
        calls = just = 0
        for turn in range(250):
            made = [self.drawn()[0], hidden.bill(self.draw)[0], hidden.countdown(self.draw)][turn % 3]
            keep = greatest(made, usual(made))[0]
            found = billed(made, keep)
            if found[0] == "crop":
                continue
            for inputs, choices in self.runs(made):
                nest = Nest(made, inputs, choices)
                for call, paid in zip(nest.calls, spent(made, inputs, choices)):
                    most = allowed(made, keep, found, call.function, call.values)
                    self.assertLessEqual(paid, most)
                    calls, just = calls + (paid > 0), just + (paid == most > 0)
        self.assertGreater(calls, 100)
        self.assertGreater(just, 10)

    def test_errors(self):
        choices = ((0, (2, 0)), (0, (0, 1)))
        for value in strange():
            if not isinstance(value, System):
                self.refuses(InvalidSystem, spent, value, None, None)
            self.refuses(InvalidForm, spent, HALVES, value, None)
            if value != ():
                self.refuses(InvalidOperation, spent, HALVES, (3,), value)
        self.refuses(Refused, spent, HALVES, (-1,), None, keeps={"reason": ("given", 0)})
        self.refuses(Refused, spent, HALVES, (3,), (*choices, (0, (0, 0))), keeps={"reason": ("choice", 2)})
        self.assertEqual(spent(HALVES, (3,), ()), (0,))


class AllowedTest(Bills):
    def test_rounded_down(self):
        free = System((("f", 1),), ())
        for scale, form, expected in [(2, (0, 1), [-2, -1, -1, 0, 0, 1, 1]), (3, (1, -1), [1, 1, 0, 0, 0, -1, -1])]:
            paper = ("bill", scale, (form,), ((0, 1, 1, 1),), ())
            keep = ((((-1, 1), (0, -1)),), ((),))
            found = [allowed(free, keep, paper, 0, (number,)) for number in range(-3, 4)]
            self.assertEqual(found, [(form[0] + form[1] * number) // scale for number in range(-3, 4)])
            self.assertEqual(found, expected)

    def test_errors(self):
        for value in strange():
            if not isinstance(value, System):
                self.refuses(InvalidSystem, allowed, value, None, None, None, None)
            self.refuses(InvalidKeep, allowed, HALVES, value, None, None, None)
            self.refuses(InvalidOperation, allowed, HALVES, HELD, value, None, None)
            self.refuses(InvalidNumber, allowed, HALVES, HELD, BILL, value, None, keeps={"given": value})
            self.refuses(InvalidForm, allowed, HALVES, HELD, BILL, 0, value)
        for value in near_misses((4,)):
            self.refuses(InvalidForm, allowed, HALVES, HELD, BILL, 0, value)
        self.refuses(InvalidNumber, allowed, HALVES, HELD, BILL, 1, (4,), keeps={"given": 1})
        self.refuses(InvalidNumber, allowed, HALVES, HELD, BILL, -1, (4,), keeps={"given": -1})
        self.refuses(InvalidOperation, allowed, HALVES, empty_keep(HALVES), BILL, 0, (4,))
        self.refuses(InvalidOperation, allowed, TWINS, HELD, CROP, 0, (4,))
        self.assertEqual(allowed(HALVES, HELD, BILL, 0, (-3,)), -3)


if __name__ == "__main__":
    unittest.main()
