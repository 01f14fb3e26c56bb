import random
import unittest

from fallorflow.check.checker import is_claim, opposite, takes
from fallorflow.errors import InvalidClaim, InvalidForm, InvalidNumber, InvalidOperation, InvalidSystem, Refused, TooMany
from fallorflow.house.edits import led_on, loosened, tightened
from fallorflow.house.report import broken_at, watch_text
from fallorflow.rules.machine import run
from fallorflow.rules.system import System
from tests import checking
from tests.draws import form
from tests.test_checker import DOWN, HELD, SUMS, some_system
from tests.values import Refusing, near_misses, strange

NINE = ("holds", "never chosen", "falls", "taken out", "billed", "shared", "ends", "at most", "within")
WATCHED = ("holds", "never chosen", "at most", "within")


class Edits(Refusing, unittest.TestCase):
    def setUp(self):
        self.draw = random.Random(181)


class GuardsTest(Edits):
    def test_drawn(self):
        for _ in range(150):
            made = some_system(self.draw)
            if not made.rules:
                continue
            rule = self.draw.randrange(len(made.rules))
            function, unknowns, guard, cost, calls, result = made.rules[rule]
            row = form(self.draw, made.functions[function][1] + unknowns, 3)
            before = (made.functions, made.rules, made.start_rows)
            if len(guard) < 8:
                found = tightened(made, rule, row)
                self.assertEqual(found.rules[rule], (function, unknowns, (*guard, row), cost, calls, result))
                self.assertEqual(loosened(found, rule, len(guard)), made)
                self.others_stay(made, found, rule)
            for place in range(len(guard)):
                found = loosened(made, rule, place)
                self.assertEqual(found.rules[rule][2], guard[:place] + guard[place + 1:])
                self.others_stay(made, found, rule)
            self.assertEqual((made.functions, made.rules, made.start_rows), before)

    def others_stay(self, made, found, rule):
        self.assertEqual((found.functions, found.start_rows, len(found.rules)), (made.functions, made.start_rows, len(made.rules)))
        for index, told in enumerate(made.rules):
            if index != rule:
                self.assertEqual(found.rules[index], told)

    def test_errors(self):
        for value in strange():
            for call, more in [(tightened, (0, (0, 1))), (loosened, (0, 0))]:
                if not isinstance(value, System):
                    self.refuses(InvalidSystem, call, value, *more)
                self.refuses(InvalidNumber, call, DOWN, value, None, keeps={"given": value})
            self.refuses(InvalidForm, tightened, DOWN, 0, value)
            self.refuses(InvalidNumber, loosened, DOWN, 0, value, keeps={"given": value})
        for rule in (-1, 2):
            self.refuses(InvalidNumber, tightened, DOWN, rule, None, keeps={"given": rule})
            self.refuses(InvalidNumber, loosened, DOWN, rule, None, keeps={"given": rule})
        for value in [*near_misses((0, 1)), (0, 1000001), (-1000001, 1)]:
            self.refuses(InvalidForm, tightened, DOWN, 0, value)
        self.assertEqual(tightened(DOWN, 0, (1000000, -1000000)).rules[0][2][1], (1000000, -1000000))
        for place in (-1, 1):
            self.refuses(InvalidNumber, loosened, DOWN, 0, place, keeps={"given": place})
        self.refuses(InvalidNumber, loosened, loosened(DOWN, 0, 0), 0, 0, keeps={"given": 0})
        full = System((("f", 1),), ((0, 0, ((0, 1),) * 8, 0, (), (0, 0)),))
        self.refuses(TooMany, tightened, full, 0, (0, 1), keeps={"limit": 8})
        self.refuses(InvalidForm, tightened, full, 0, (0, 1, 2))
        self.assertEqual(len(tightened(loosened(full, 0, 3), 0, (5, 5)).rules[0][2]), 8)


class LedOnTest(Edits):
    def test_drawn(self):
        seen, own = {}, {}
        for _ in range(140):
            made = some_system(self.draw)
            for claim, paper in checking.claims(self.draw, made) if made.rules else ():
                rule = self.draw.randrange(len(made.rules))
                told = made.rules[rule]
                row = form(self.draw, made.functions[told[0]][1] + told[1], 3)
                if claim[0] not in NINE:
                    self.refuses(InvalidClaim, led_on, claim, paper, rule, row)
                    continue
                if len(told[2]) == 8:
                    self.refuses(TooMany, led_on, claim, paper, rule, row, keeps={"limit": 8})
                    continue
                self.look_at_led(claim, paper, rule, row)
                seen[claim[0]] = seen.get(claim[0], 0) + 1
                own[claim[0]] = own.get(claim[0], 0) + (led_on(claim, paper, rule, row)[1] != paper)
        self.assertEqual(set(seen), set(NINE))
        self.assertGreater(min(seen.values()), 15, seen)
        # In most kinds some sum is for rows among which the guard stands.
        self.assertGreater(min(own[word] for word in NINE), 3, own)

    def look_at_led(self, claim, paper, rule, row):
        made = claim[1]
        found = led_on(claim, paper, rule, row)
        other, led = found
        self.assertEqual(other, (claim[0], tightened(made, rule, row), *claim[2:]))
        self.is_just(True, is_claim(other))
        self.is_just(True, takes(other, led), claim[0])
        self.assertTrue(checking.is_paper(other, led), claim[0])
        self.look_at_zeros(paper, led)

    def look_at_zeros(self, paper, led):
        """All stays but for zeros that are put in."""
        if isinstance(paper, tuple) and paper and all(type(part) is int for part in paper) and paper != led:
            self.assertEqual(len(led), len(paper) + 1)
            self.assertTrue(any(led[:at] + led[at + 1:] == paper and led[at] == 0 for at in range(len(led))))
        elif isinstance(paper, tuple) and paper != led:
            self.assertEqual(len(paper), len(led))
            for one, other in zip(paper, led):
                self.look_at_zeros(one, other)
        else:
            self.assertEqual(paper, led)

    def test_where_the_zero_stands(self):
        # Behind the entry row and the guard, ahead of what results tell.
        found = led_on(("holds", DOWN, 0, 0, (0, 1)), (HELD, SUMS), 0, (7, 0))[1]
        self.assertEqual(found, (HELD, ((1, 0, 0, 1, 0), (1, 0, 1))))
        self.assertEqual(led_on(("holds", DOWN, 0, 0, (0, 1)), (HELD, SUMS), 1, (7, 0))[1], (HELD, SUMS))
        made = System((("f", 1),), ((0, 0, ((-1, 1),), 1, ((0, ((-1, 1),)), (0, ((0, 0, 1),))), (0, 0, 0, 1)), (0, 0, (), 0, (), (0, 0))), ((0, 1),))
        keep = ((((0, 1),),), (((0, 0, 1),),))
        sums = ((1, 0, 0, 1), (1, 0, 0, 0, 1), (1, 0, 0, 0, 0, 1), (1, 0, 0), (1, 0, 1))
        claim = ("holds", made, 0, 0, (0, 1))
        self.is_just(True, takes(claim, (keep, sums)))
        led = led_on(claim, (keep, sums), 0, (0, 1))[1]
        self.assertEqual(led, (keep, ((1, 0, 0, 1, 0), (1, 0, 0, 0, 0, 1), (1, 0, 0, 0, 0, 0, 1), (1, 0, 0), (1, 0, 1))))

    def test_deep_trees(self):
        two = System((("f", 1),), tuple([(0, 0, ((-1, 0),), 1, ((0, ((1, 1),)), (0, ((1, 1, 0),))), (0,) * 4)] * 80))
        lot = tuple((rule, number) for rule in range(80) for number in (0, 1))
        tree = ()
        for place in reversed(range(160)):
            left = lot[place:]
            sums = tuple((0, 1, 1) for _ in left)
            tree = ((left, ((left[0], (((0, 0),), (*sums, sums[0]))),), tree),)
        keep = (((),), ((),))
        claim, led = led_on(("taken out", two, keep, lot), tree, 3, (0, 5))
        self.is_just(True, takes(claim, led))
        self.assertEqual(led[0][1][0][1][1][5:9], ((0, 1, 1), (0, 1, 1, 0), (0, 1, 1, 0), (0, 1, 1)))

    def test_true_claims_stay_true(self):
        # [18.2]: runs of the tightened system are runs of the former one; runs of that one are runs of the loosened one.
        moved = 0
        for _ in range(60):
            made = some_system(self.draw)
            for claim, paper in checking.run_claims(self.draw, made):
                if claim[0] == "for ever" or not made.rules:
                    continue
                rule = self.draw.randrange(len(made.rules))
                if made.rules[rule][2]:
                    place = self.draw.randrange(len(made.rules[rule][2]))
                    other = (claim[0], loosened(made, rule, place), *claim[2:])
                    self.is_just(True, takes(other, paper))
                    moved += 1
        self.assertGreater(moved, 100)

    def test_errors(self):
        claim, paper = ("holds", DOWN, 0, 0, (0, 1)), (HELD, SUMS)
        for value in [*strange(), ("point", 0, ()), ("bar", 0, ()), ("follows", 0, (), (0,)), ("breaks", DOWN, 0, 0, (0, 1)), ("least", DOWN, HELD, 0, (0,), (0, 1)), ("for ever", DOWN), ("more", DOWN, (0,), 0)]:
            self.refuses(InvalidClaim, led_on, value, None, None, None)
        for value in [*strange(), (HELD, ()), (HELD, SUMS, ())]:
            self.refuses(InvalidOperation, led_on, claim, value, None, None)
        for value in [*strange(), -1, 2]:
            self.refuses(InvalidNumber, led_on, claim, paper, value, None, keeps={"given": value})
        for value in [*strange(), (0, 1000001)]:
            self.refuses(InvalidForm, led_on, claim, paper, 0, value)

    def test_nothing_is_shared(self):
        poly = {(1,): 9, (0,): 9}
        keep, sums = checking.held(DOWN)
        pair = next((claim, paper) for claim, paper in checking.cost_claims(self.draw, DOWN, keep, sums) if claim[0] == "within")
        claim = ("within", DOWN, {**pair[0][2], (3,): 5})
        led = led_on(claim, pair[1], 0, (0, 1))[0]
        led[2].clear()
        self.assertEqual(claim[2][3,], 5)
        self.assertEqual(poly, {(1,): 9, (0,): 9})


class WatchesTest(Edits):
    def first_break(self, claim, inputs, choices):
        """The first n of choices that make a paper for the opposite claim, all being tried."""
        if claim[0] == "at most" and inputs != claim[2]:
            return None
        for many in range(len(choices) + 1):
            told = choices[:many] if claim[0] == "at most" else (inputs, choices[:many])
            if checking.is_paper(opposite(claim), told):
                self.is_just(True, takes(opposite(claim), told))
                return many
        return None

    def some_watched(self, made, inputs, choices):
        """Watched claims, true and false ones."""
        standing = run(made, inputs, choices)
        for rule in range(len(made.rules)):
            yield ("never chosen", made, rule)
        for _ in range(3):
            function = self.draw.randrange(len(made.functions))
            side = self.draw.randint(0, 1)
            yield ("holds", made, side, function, form(self.draw, made.functions[function][1] + side, 3))
        for number in {0, max(0, standing.cost - 1), standing.cost, standing.cost + 1}:
            yield ("at most", made, inputs, number)
            yield ("within", made, {(0,) * len(inputs): number} if number else {})
        if inputs:
            yield ("at most", made, tuple(number + 1 for number in inputs), 0)
            yield ("within", made, {(1,) + (0,) * (len(inputs) - 1): 1})

    def test_drawn(self):
        seen = {}
        for _ in range(120):
            made = some_system(self.draw)
            for inputs, choices in checking.some_runs(self.draw, made, 2):
                for claim in self.some_watched(made, inputs, choices):
                    if not is_claim(claim):
                        continue
                    expected = self.first_break(claim, inputs, choices)
                    self.assertEqual(broken_at(claim, inputs, choices), expected, (claim, inputs, choices))
                    key = (claim[0], None if expected is None else min(expected, 2))
                    seen[key] = seen.get(key, 0) + 1
        for word in WATCHED:
            for number in (None, 1, 2):
                self.assertGreater(seen.get((word, number), 0), 8, (word, number, seen))
        self.assertGreater(seen["holds", 0], 8)

    def test_none_with_a_paper(self):
        # A claim for which there is a paper is broken by no run.
        for _ in range(60):
            made = some_system(self.draw)
            pairs = [pair for pair in checking.claims(self.draw, made) if pair[0][0] in WATCHED]
            for inputs, choices in checking.some_runs(self.draw, made, 4):
                for claim, _ in pairs:
                    self.assertIsNone(broken_at(claim, inputs, choices))

    def test_long_runs(self):
        choices = ((0, ()),) * 2000
        self.assertEqual(broken_at(("at most", DOWN, (3000,), 1999), (3000,), choices), 2000)
        self.assertIsNone(broken_at(("at most", DOWN, (3000,), 2000), (3000,), choices))
        self.assertEqual(broken_at(("holds", DOWN, 0, 0, (-1500, 1)), (3000,), choices), 1501)
        self.assertEqual(broken_at(("within", DOWN, {(0,): 9}), (3000,), choices), 10)
        self.assertEqual(broken_at(("at most", DOWN, (2000,), 0), (2000,), (*choices[:1999], (0, ()))), 1)

    def test_errors(self):
        claim = ("never chosen", DOWN, 0)
        for value in [*strange(), ("breaks", DOWN, 0, 0, (0, 1)), ("chosen", DOWN, 0), ("more", DOWN, (0,), 0), ("beyond", DOWN, {}), ("ends", DOWN), ("point", 0, ()), ("at most", DOWN, (-1,), 0)]:
            self.refuses(InvalidClaim, broken_at, value, None, None)
            self.refuses(InvalidClaim, watch_text, value)
        for value in strange():
            self.refuses(InvalidForm, broken_at, claim, value, None)
            if value != ():
                self.refuses(InvalidOperation, broken_at, claim, (3,), value)
        self.refuses(Refused, broken_at, claim, (-1,), None, keeps={"reason": ("given", 0)})
        self.refuses(Refused, broken_at, claim, (0,), ((1, ()), (1, ())), keeps={"reason": ("choice", 1)})
        self.refuses(InvalidOperation, broken_at, claim, (3000,), ((0, ()),) * 2001)
        # Also where another claim's inputs are not those of the run.
        self.refuses(Refused, broken_at, ("at most", DOWN, (5,), 0), (0,), ((0, ()),), keeps={"reason": ("choice", 0)})


class TextsTest(Edits):
    def test_texts(self):
        main = System((("main", 2), ("g", 0), ("wide", 5)), ((1, 0, (), 0, (), (0,)),) * 4)
        for claim, text in [
                (("holds", main, 0, 0, (0, 1, -1)), "holds main: a - b >= 0"), (("holds", main, 1, 0, (0, 1, 0, -1)), "holds result of main: a - r >= 0"), (("never chosen", main, 3), "never chosen: rule 3"),
                (("at most", main, (4, 0), 12), "at most 12 from (4, 0)"), (("within", main, {(1, 1): 2, (1, 0): 1, (0, 0): 1}), "within 2 a b + a + 1"),
                (("holds", main, 0, 1, (-4,)), "holds g: -4 >= 0"), (("holds", main, 1, 1, (0, -2)), "holds result of g: -2 r >= 0"), (("holds", main, 0, 1, (0,)), "holds g: 0 >= 0"),
                (("holds", main, 1, 2, (5, 1, -2, 3, -4, 5, -6)), "holds result of wide: a - 2 b + 3 c - 4 d + 5 e - 6 r + 5 >= 0"), (("at most", main, (-4, 10 ** 59), 0), f"at most 0 from (-4, {10 ** 59})"),
                (("within", main, {}), "within 0"), (("within", main, {(0, 0): 1}), "within 1"), (("within", main, {(0, 0): 7}), "within 7"), (("within", main, {(40, 0): 1}), "within a^40"),
                (("within", main, {(0, 1): 1, (1, 0): 1}), "within a + b"), (("within", main, {(2, 3): 12, (2, 0): 1, (0, 9): 4, (1, 7): 1}), "within 12 a^2 b^3 + a^2 + a b^7 + 4 b^9")]:
            self.is_just(True, is_claim(claim))
            self.assertEqual(watch_text(claim), text)
        one, none = System((("f", 1),), ()), System((("f", 0),), ())
        self.assertEqual([watch_text(("at most", one, (4,), 3)), watch_text(("at most", none, (), 3)), watch_text(("within", none, {(): 3}))], ["at most 3 from (4)", "at most 3 from ()", "within 3"])
        self.assertEqual(watch_text(("within", System((("f", 5),), ()), {(1, 2, 3, 4, 5): 6})), "within 6 a b^2 c^3 d^4 e^5")

    def test_thousand_digits(self):
        for number, many in [(10 ** 1000 - 1, 1000), (10 ** 1000, None), (10 ** 5000, None), (10 ** 999, 1000)]:
            claims = [("at most", DOWN, (3,), number), ("within", DOWN, {(1,): number}), ("within", DOWN, {(2,): 1, (0,): number})]
            for claim in claims:
                self.is_just(True, is_claim(claim))
                if many is None:
                    self.refuses(InvalidClaim, watch_text, claim)
                else:
                    self.assertEqual(len(watch_text(claim)) - many, len(watch_text((*claim[:2], *[part if part != number else 7 for part in claim[2:]]))) - 1
                                     if claim[0] == "at most" else len("within ") + (len(" a") if (1,) in claim[2] else len("a^2 + ")))


if __name__ == "__main__":
    unittest.main()
