import random
import unittest
from fractions import Fraction

from fallorflow.bills.bills import allowed, billed, is_bill, is_crop, spent
from fallorflow.bills.least import is_least_bill, is_shared, is_split, least_bill, lot_items, shared, visits, worth
from fallorflow.errors import InvalidForm, InvalidKeep, InvalidNumber, InvalidOperation, InvalidSystem, Refused, TooMany
from fallorflow.fall.ranks import falling
from fallorflow.hold.keeps import greatest, usual
from fallorflow.rules.machine import each_run
from fallorflow.rules.system import System, edges, empty_keep
from tests import draws, hidden, papers
from tests.bending import bent, longer
from tests.judging import at, is_lowest
from tests.nested import Nest
from tests.test_bills import BILL, HALVES, HELD, TWINS, Bills, equations
from tests.values import near_misses, strange

LONG = 10 ** 80


def value_of(bill, function, values):
    return Fraction(at(bill[2][function], [1, *values]), bill[1])


def mixture_of(made, nest):
    """The mixture of the steps of a run: of each rule, by how many of its calls were made."""
    prices = papers.Prices(made)
    steps = {}
    own = {}
    for call in nest.calls:
        if call.rule is None:
            own.setdefault(call.function, []).append((1, *call.values))
        else:
            number = len(call.ahead) if made.rules[call.rule][4] else 0
            steps.setdefault((call.rule, number), []).append((1, *call.ahead[-1]))
    told = [steps.get(item) for item in prices.items]
    flows = [None if rows is None else (tuple(map(sum, zip(*rows))), rows[0]) for rows in told]
    functions = [own.get(function) for function in range(len(made.functions))]
    left = [None if rows is None else (tuple(map(sum, zip(*rows))), rows[0]) for rows in functions]
    return (1, tuple(flows), tuple(left))


class Least(Bills):
    def place(self, made, keep):
        """A function and values at which its entry rows hold, if some are found soon."""
        for _ in range(20):
            function = self.draw.randrange(len(made.functions))
            values = tuple(self.draw.randint(-3, 6) for _ in range(made.functions[function][1]))
            if all(at(row, [1, *values]) >= 0 for row in keep[0][function]):
                return function, values
        return None

    def least(self, made, keep, function, values):
        """What is told is a least bill with its mixture, or a crop."""
        found = least_bill(made, keep, function, values)
        prices = papers.Prices(made)
        if found[0] == "crop":
            self.is_just(True, papers.is_crop(prices, keep, "crop", found))
            self.is_just(False, is_least_bill(made, keep, function, values, found))
            self.assertEqual(billed(made, keep)[0], "crop")
            return None
        word, (top, bottom), bill, mixture = found
        self.assertEqual((word, bottom >= 1, is_lowest((top, bottom))), ("least", True, True))
        self.is_just(True, papers.is_bill(prices, keep, "bill", bill))
        self.is_just(True, papers.is_mixture(prices, keep, function, values, mixture))
        self.assertEqual(value_of(bill, function, values), Fraction(top, bottom))
        self.assertEqual(Fraction(papers.look_at_mixture(prices, keep, function, values, mixture), mixture[0]), Fraction(top, bottom))
        self.is_just(True, is_least_bill(made, keep, function, values, found))
        self.assertEqual(worth(made, keep, function, values, mixture), (top, bottom))
        return found


class LeastBillTest(Least):
    def test_drawn(self):
        seen = {"least": 0, "crop": 0, "costly": 0, "fraction": 0}
        for _ in range(300):
            made, keep = self.drawn()
            place = self.place(made, keep)
            if place is not None:
                found = self.least(made, keep, *place)
                self.assertEqual(least_bill(made, keep, *place), least_bill(made, keep, *place))
                seen["crop" if found is None else "least"] += 1
                if found is not None:
                    self.assertLessEqual(Fraction(*found[1]), value_of(billed(made, keep), *place))
                    seen["costly"] += found[1][0] > 0
        for _ in range(200):
            made, keep, known = hidden.bill(self.draw)
            place = self.place(made, keep)
            if place is not None:
                found = self.least(made, keep, *place)
                self.assertLessEqual(Fraction(*found[1]), value_of(known, *place))
                seen["fraction"] += found[1][1] > 1
            made, keep, known = hidden.crop(self.draw)
            place = self.place(made, keep)
            if place is not None:
                self.assertIsNone(self.least(made, keep, *place))
            made = hidden.countdown(self.draw)
            keep = greatest(made, usual(made))[0]
            found = self.least(made, keep, *self.place(made, keep))
            seen["fraction"] += found is not None and found[1][1] > 1
        self.assertGreater(min(seen.values()), 20)

    def test_runs_are_mixtures(self):
        # [11.1], [11.2], for keeps that hold: the steps of a run, cut anywhere, are a mixture, and worth what it has paid.
        many = just = 0
        for turn in range(250):
            made = [self.drawn()[0], hidden.bill(self.draw)[0], hidden.countdown(self.draw)][turn % 3]
            keep = greatest(made, usual(made))[0]
            for inputs, choices in self.runs(made):
                nest = Nest(made, inputs, choices)
                mixture = mixture_of(made, nest)
                paid = spent(made, inputs, choices)[0]
                self.is_just(True, papers.is_mixture(papers.Prices(made), keep, 0, inputs, mixture))
                self.assertEqual(worth(made, keep, 0, inputs, mixture), (paid, 1))
                found = least_bill(made, keep, 0, inputs)
                if found[0] == "least":
                    self.assertLessEqual(paid, Fraction(*found[1]))
                    many, just = many + (paid > 0), just + (paid == Fraction(*found[1]) > 0)
        self.assertGreater(many, 60)
        self.assertGreater(just, 20)

    def test_other_bills_and_mixtures(self):
        # No bill has less, and no mixture is worth more, both being judged by the test.
        for _ in range(100):
            made, keep, known = hidden.bill(self.draw)
            places = [place for place in [self.place(made, keep) for _ in range(3)] if place is not None]
            found = [(place, least_bill(made, keep, *place)) for place in places]
            for place, (_, fraction, bill, mixture) in found:
                for other, (_, _, further, _) in found:
                    self.assertLessEqual(Fraction(*fraction), value_of(further, *place))
                twice = (2 * mixture[0], longer(mixture[1], 2), longer(mixture[2], 2))
                self.assertEqual(worth(made, keep, *place, twice), fraction)
                self.is_just(True, is_least_bill(made, keep, *place, ("least", fraction, bill, twice)))

    def test_a_fraction(self):
        # Two calls at x cost 1, and lead to x - 3: a third each.
        made = System((("f", 1),), ((0, 0, ((-3, 1),), 1, ((0, ((-3, 1),)),), (0, 0, 0)),), ((0, 1),))
        found = self.least(made, HELD, 0, (7,))
        self.assertEqual(found[1], (7, 3))
        word, (top, bottom), bill, mixture = found
        for fraction in [(14, 6), (-7, -3), (7, 0), (8, 3), (7, 4), [7, 3], (7,), (7, 3, 0), (True, 3), None, 7]:
            self.is_just(False, is_least_bill(made, HELD, 0, (7,), (word, fraction, bill, mixture)))
        self.is_just(False, is_least_bill(made, HELD, 0, (8,), found))
        self.is_just(False, is_least_bill(made, empty_keep(made), 0, (7,), found))
        for value in [*strange(), found[1:], list(found), (*found, 0), ("bill", *found[1:]), (("least",), *found[1:]), (word, found[1], mixture, bill), bill, mixture]:
            self.is_just(False, is_least_bill(made, HELD, 0, (7,), value), repr(value)[:200])

    def test_nothing_to_pay(self):
        # A function that nothing names, and one that costs nothing.
        bare = System((("f", 1), ("g", 2)), ((0, 0, ((0, 1),), 0, (), (0, 0)),))
        for function, values in [(0, (5,)), (1, (3, -4))]:
            found = self.least(bare, empty_keep(bare), function, values)
            self.assertEqual(found[1], (0, 1))
        self.assertEqual(self.least(System((("f", 0),), ()), (((),), ((),)), 0, ())[1], (0, 1))
        # Entry rows that are closed for another function.
        other = System((("f", 0), ("g", 0)), ((0, 0, (), 3, ((1, ()),), (0, 0)), (1, 0, (), 9, (), (0,))))
        shut = (((), ((-1,),)), ((), ()))
        found = least_bill(other, shut, 0, ())
        self.assertEqual((found[0], found[1], billed(other, shut)[0]), ("least", (0, 1), "bill"))
        self.assertEqual(self.least(other, empty_keep(other), 0, ())[1], (12, 1))
        self.refuses(Refused, least_bill, other, shut, 1, (), keeps={"reason": ("entry", 0)})

    def test_bent(self):
        for _ in range(60):
            made, keep, _ = hidden.bill(self.draw)
            place = self.place(made, keep)
            if place is None:
                continue
            prices = papers.Prices(made)
            found = least_bill(made, keep, *place)
            for value in bent(self.draw, found, 14):
                self.is_just(self.own(prices, keep, *place, value), is_least_bill(made, keep, *place, value), repr(value)[:300])
            for value in bent(self.draw, found[3], 6):
                if papers.is_mixture(prices, keep, *place, value):
                    price = Fraction(papers.look_at_mixture(prices, keep, *place, value), value[0])
                    self.assertEqual(worth(made, keep, *place, value), (price.numerator, price.denominator))
                else:
                    self.refuses(InvalidOperation, worth, made, keep, *place, value)

    def own(self, prices, keep, function, values, value):
        if type(value) is not tuple or len(value) != 4 or value[0] != "least" or type(value[1]) is not tuple or len(value[1]) != 2:
            return False
        if not all(type(number) is int for number in value[1]) or value[1][1] < 1 or not is_lowest(value[1]):
            return False
        if not papers.is_bill(prices, keep, "bill", value[2]) or not papers.is_mixture(prices, keep, function, values, value[3]):
            return False
        price = papers.look_at_mixture(prices, keep, function, values, value[3])
        return value_of(value[2], function, values) == Fraction(*value[1]) == Fraction(price, value[3][0])

    def test_errors(self):
        mixture = least_bill(HALVES, HELD, 0, (7,))[3]
        for value in strange():
            for call, more in [(least_bill, ()), (is_least_bill, (None,)), (worth, (mixture,))]:
                if not isinstance(value, System):
                    self.refuses(InvalidSystem, call, value, None, None, None, *more)
                self.refuses(InvalidKeep, call, HALVES, value, None, None, *more)
                self.refuses(InvalidNumber, call, HALVES, HELD, value, None, *more, keeps={"given": value})
                self.refuses(InvalidForm, call, HALVES, HELD, 0, value, *more)
                self.refuses(Refused, call, HALVES, HELD, 0, (-1,), *more, keeps={"reason": ("entry", 0)})
            self.refuses(InvalidOperation, worth, HALVES, HELD, 0, (7,), value)
        for call, more in [(least_bill, ()), (is_least_bill, (None,)), (worth, (None,))]:
            for values in near_misses((7,)):
                self.refuses(InvalidForm, call, HALVES, HELD, 0, values, *more)
            self.refuses(InvalidNumber, call, HALVES, HELD, 1, (7,), *more, keeps={"given": 1})
            two = ((((0, 1), (5, 0), (-9, 1)),), ((),))
            self.refuses(Refused, call, HALVES, two, 0, (7,), *more, keeps={"reason": ("entry", 2)})
        wide = System((("f", 1),), ((0, 0, (), 1, (), (0, 0)),) * 40)
        self.refuses(TooMany, least_bill, wide, empty_keep(wide), 0, (3,), keeps={"limit": 80})
        self.refuses(Refused, least_bill, wide, ((((-9, 1),),), ((),)), 0, (3,), keeps={"reason": ("entry", 0)})
        paper = ("bill", 1, ((1, 0),), ((1, 1),), ((1, 0),) * 40)
        flows = (((1, 3), (1, 3)), *[None] * 39)
        self.is_just(True, is_least_bill(wide, empty_keep(wide), 0, (3,), ("least", (1, 1), paper, (1, flows, (None,)))))
        self.assertEqual(worth(wide, empty_keep(wide), 0, (3,), (LONG, longer(flows, LONG), (None,))), (1, 1))
        self.assertEqual(worth(wide, empty_keep(wide), 0, (3,), (1, (None,) * 40, (((1, 3), (1, 3)),))), (0, 1))

    def test_what_is_not_true(self):
        # [11.5]. The least bill is at a third of a step more than any run costs; with an entry row more it is less.
        made = System((("f", 1),), ((0, 0, ((-3, 1),), 1, ((0, ((-3, 1),)),), (0, 0, 0)),), ((0, 1),))
        self.assertEqual(max(spent(made, (7,), run)[0] for run in each_run(made, (7,), 0, 9)), 2)
        capped = System((("f", 1),), ((0, 0, ((-1, 1), (5, -1)), 1, ((0, ((-1, 1),)),), (0, 0, 0)), (0, 0, (), 0, (), (0, 0))))
        some = ((((0, 1),),), ((),))
        more = ((((0, 1), (9, -1)),), ((),))
        self.assertLessEqual(Fraction(*least_bill(capped, more, 0, (4,))[1]), Fraction(*least_bill(capped, some, 0, (4,))[1]))
        # [10.6]: two bills, and the least of both at each input is none: what x or y pays is paid by both.
        pair = System((("f", 2),), ((0, 0, ((-1, 1, 0), (-1, 0, 1)), 1, ((0, ((-1, 1, 0), (-1, 0, 1))),), (0,) * 4),), ((0, 1, 0), (0, 0, 1)))
        keep = ((((0, 1, 0), (0, 0, 1)),), ((),))
        self.assertEqual([least_bill(pair, keep, 0, values)[1] for values in [(3, 8), (8, 3), (5, 5)]], [(3, 1), (3, 1), (5, 1)])


class SharedTest(Least):
    def lot_of(self, made):
        return tuple(edge for edge in edges(made) if self.draw.random() < 0.8)

    def answer(self, made, keep, lot):
        word, *_ = found = shared(made, keep, lot)
        prices = papers.Prices(made, lot)
        self.assertIn(word, ("shared", "split"))
        self.is_just(word == "shared", papers.is_bill(prices, keep, "shared", found))
        self.is_just(word == "shared", is_shared(made, keep, lot, found))
        self.is_just(word == "split", papers.is_crop(prices, keep, "split", found))
        self.is_just(word == "split", is_split(made, keep, lot, found))
        return found

    def test_drawn(self):
        seen = {"shared": 0, "split": 0}
        for _ in range(300):
            made, keep = self.drawn()
            lot = self.lot_of(made)
            self.assertEqual(lot_items(made, lot), tuple(papers.Prices(made, lot).items))
            found = self.answer(made, keep, lot)
            seen[found[0]] += 1
            self.assertEqual(found, shared(made, keep, lot))
        self.assertGreater(min(seen.values()), 60)

    def test_twins(self):
        words = [self.answer(TWINS, HELD, lot)[0] for lot in [(), ((0, 0),), ((0, 1),), ((0, 0), (0, 1))]]
        self.assertEqual(words, ["shared", "shared", "shared", "split"])
        self.assertEqual(falling(TWINS, HELD, edges(TWINS)), edges(TWINS))
        both = ((0, 0), (0, 1))
        self.assertEqual(self.answer(HALVES, HELD, both)[0], "shared")

    def test_as_bills(self):
        # Rules that cost 1 each and have calls of the lot alone: a shared rank is a bill of these.
        for _ in range(100):
            made, keep = self.drawn()
            lot = tuple(edge for edge in edges(made))
            rules = tuple((*rule[:3], 1 if rule[4] else 0, *rule[4:]) for rule in made.rules)
            same = System(made.functions, rules, made.start_rows)
            bare = all(rule[4] for rule in rules)
            found = self.answer(made, keep, lot)
            if bare:
                self.assertEqual(found[0] == "shared", billed(same, keep)[0] == "bill")
                if found[0] == "shared":
                    self.is_just(True, is_bill(same, keep, ("bill", *found[1:])))
                else:
                    self.is_just(True, is_crop(same, keep, ("crop", *found[1:])))

    def test_bent(self):
        for _ in range(60):
            made, keep = self.drawn()
            lot = self.lot_of(made)
            found = shared(made, keep, lot)
            prices = papers.Prices(made, lot)
            for value in bent(self.draw, found, 10):
                self.is_just(papers.is_bill(prices, keep, "shared", value), is_shared(made, keep, lot, value), repr(value)[:300])
                self.is_just(papers.is_crop(prices, keep, "split", value), is_split(made, keep, lot, value), repr(value)[:300])
            for other in [self.lot_of(made), edges(made), ()]:
                further = papers.Prices(made, other)
                self.is_just(papers.is_bill(further, keep, "shared", found), is_shared(made, keep, other, found))
                self.is_just(papers.is_crop(further, keep, "split", found), is_split(made, keep, other, found))
            long = (found[0], *longer(found[1:], LONG))
            if found[0] == "split":
                self.is_just(True, is_split(made, keep, lot, long))
            else:
                sums = [tuple((told[0], *longer(told[1:], LONG)) for told in told_lot) for told_lot in found[3:]]
                self.is_just(True, is_shared(made, keep, lot, (*long[:3], *sums)))

    def test_most_equations(self):
        # Only calls of the lot name their callees.
        made = System((("f", 0), ("g", 5)), ((0, 0, (), 0, ((0, ()), (1, ((0, 0),) * 5)), (0, 0, 0)),) * 25)
        every, first, second = edges(made), tuple((at, 0) for at in range(25)), tuple((at, 1) for at in range(25))
        self.assertEqual([equations(made, lot) for lot in (every, first, second)], [82, 26, 57])
        for lot in (first, second, every[:-1]):
            self.answer(made, empty_keep(made), lot)
        self.refuses(TooMany, shared, made, empty_keep(made), every, keeps={"limit": 80})
        for value in strange():
            self.is_just(False, is_shared(made, empty_keep(made), every, value))
            self.is_just(False, is_split(made, empty_keep(made), every, value))

    def test_errors(self):
        for value in strange():
            for call, more in [(shared, ()), (is_shared, (None,)), (is_split, (None,))]:
                if not isinstance(value, System):
                    self.refuses(InvalidSystem, call, value, None, None, *more)
                self.refuses(InvalidKeep, call, TWINS, value, None, *more)
                if value != ():
                    self.refuses(InvalidSystem, call, TWINS, HELD, value, *more)
            if not isinstance(value, System):
                self.refuses(InvalidSystem, lot_items, value, None)
            if value != ():
                self.refuses(InvalidSystem, lot_items, TWINS, value)
        for lot in [((0, 1), (0, 0)), ((0, 0), (0, 0)), ((0, 2),), [(0, 0)], ((0, True),)]:
            for call, more in [(shared, ()), (is_shared, (None,)), (is_split, (None,))]:
                self.refuses(InvalidSystem, call, TWINS, HELD, lot, *more)
            self.refuses(InvalidSystem, lot_items, TWINS, lot)
        self.assertEqual((lot_items(TWINS, ()), lot_items(TWINS, ((0, 0), (0, 1)))), ((), ((0, 1), (0, 2))))


class VisitsTest(Least):
    def expected(self, made, nest, lot):
        found = []
        for call in nest.calls:
            along = [other for other in nest.within(call)
                     if all(step.edge in lot for step in nest.chain(other)[:nest.chain(other).index(call)])]
            found.append(sum(any(inner.above is other and inner.edge in lot for inner in nest.calls) for other in along))
        return tuple(found)

    def test_drawn(self):
        many = 0
        for _ in range(200):
            made, _ = self.drawn()
            for inputs, choices in self.runs(made):
                lot = tuple(edge for edge in edges(made) if self.draw.random() < 0.7)
                found = visits(made, inputs, choices, lot)
                self.assertEqual(found, self.expected(made, Nest(made, inputs, choices), lot))
                many += max(found) > 1
        self.assertGreater(many, 60)

    def test_no_call_is_taken_more_often(self):
        # [11.4], for keeps that hold.
        many = just = 0
        for turn in range(300):
            made = [self.drawn()[0], hidden.bill(self.draw)[0], hidden.countdown(self.draw)][turn % 3]
            keep = greatest(made, usual(made))[0]
            lot = tuple(edge for edge in edges(made) if self.draw.random() < 0.7)
            found = shared(made, keep, lot)
            if found[0] == "split":
                continue
            for inputs, choices in self.runs(made):
                nest = Nest(made, inputs, choices)
                for call, times in zip(nest.calls, visits(made, inputs, choices, lot)):
                    most = at(found[2][call.function], [1, *call.values]) // found[1]
                    self.assertLessEqual(times, most)
                    many, just = many + (times > 0), just + (times == most > 0)
        self.assertGreater(many, 100)
        self.assertGreater(just, 20)

    def test_errors(self):
        choices = ((0, (2, 0)), (0, (0, 1)))
        for value in strange():
            if not isinstance(value, System):
                self.refuses(InvalidSystem, visits, value, None, None, None)
            self.refuses(InvalidForm, visits, HALVES, value, None, None)
            if value != ():
                self.refuses(InvalidOperation, visits, HALVES, (3,), value, None)
                self.refuses(InvalidSystem, visits, HALVES, (3,), choices, value)
        self.refuses(Refused, visits, HALVES, (-1,), None, None, keeps={"reason": ("given", 0)})
        self.refuses(Refused, visits, HALVES, (3,), (*choices, (0, (0, 0))), None, keeps={"reason": ("choice", 2)})
        self.refuses(InvalidSystem, visits, HALVES, (3,), choices, ((0, 1), (0, 0)))
        self.assertEqual(visits(HALVES, (3,), choices, ()), (0, 0, 0))

    def test_allowed(self):
        self.assertEqual([allowed(HALVES, HELD, BILL, 0, (number,)) for number in range(4)], [0, 1, 2, 3])


if __name__ == "__main__":
    unittest.main()
