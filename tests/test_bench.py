import random
import unittest

from fallorflow.check.checker import is_claim, takes
from fallorflow.errors import InvalidClaim, InvalidForm, InvalidNumber, InvalidOperation, InvalidSystem, NothingToUndo, Refused, TooMany
from fallorflow.house.bench import Bench
from fallorflow.house.edits import led_on, loosened, tightened
from fallorflow.house.report import broken_at
from fallorflow.rules.system import System
from tests import checking, draws
from tests.draws import form
from tests.test_checker import DOWN, ENDS, HELD, SUMS, some_system
from tests.test_edits import NINE, WATCHED
from tests.values import Refusing, strange

HOLDS = (("holds", DOWN, 0, 0, (0, 1)), (HELD, SUMS))
MORE = (("more", DOWN, (3,), 2), ((0, ()),) * 3)
ROUND = System((("f", 1), ("g", 1)), ((0, 0, (), 2, ((1, ((0, 1),)), (0, ((0, 1, 0),))), (0,) * 4), (1, 0, (), 3, (), (0, 0))))


def about(claim, system):
    return (claim[0], system, *claim[2:])


class Model:
    """A bench of the test's own: it works all calls anew from the first system whenever it is asked."""

    def __init__(self, system):
        self.first = system
        self.calls = []

    def state(self, many=None):
        system, notes = self.first, {}
        for call in self.calls[:many]:
            if call[0] == "note":
                notes[len(notes) + 1] = call[1:]
                continue
            standing = self.stand(notes)
            if call[0] == "put":
                rules = list(system.rules)
                rules[call[1]:call[1] + 1] = [call[2]]
                system = System(system.functions, tuple(rules), system.start_rows)
            else:
                system = (tightened if call[0] == "tighten" else loosened)(system, call[1], call[2])
            for number, (claim, paper) in list(notes.items()):
                if call[0] == "tighten" and number in standing and claim[0] in NINE:
                    notes[number] = led_on(claim, paper, call[1], call[2])
                else:
                    notes[number] = (about(claim, system), paper)
        return system, notes

    def stand(self, notes):
        return tuple(number for number, (claim, paper) in notes.items() if is_claim(claim) and takes(claim, paper))


class Benches(Refusing, unittest.TestCase):
    def setUp(self):
        self.draw = random.Random(186)

    def equal(self, bench, model):
        system, notes = model.state()
        standing = model.stand(notes)
        self.assertEqual(bench.system, system)
        self.assertEqual(bench.notes, notes)
        self.assertEqual(list(bench.notes), list(range(1, len(notes) + 1)))
        self.assertEqual(bench.standing, standing)
        self.assertEqual(bench.calls, tuple(model.calls))
        self.assertEqual(len(bench), len(notes))
        self.assertEqual(str(bench), f"bench of {len(system.rules)} rules, {len(standing)} of {len(notes)} notes stand")
        return system, notes, standing


class SequencesTest(Benches):
    def test_drawn(self):
        self.seen = {}
        for _ in range(60):
            bench, model = self.begin()
            pairs = [(bench, model)]
            for _ in range(self.draw.randint(5, 12)):
                bench, model = self.draw.choice(pairs)
                self.work(bench, model)
                for one, other in pairs:
                    self.equal(one, other)
                if len(pairs) < 3 and self.draw.random() < 0.15:
                    other = Model(model.first)
                    other.calls = list(model.calls)
                    pairs.append((bench.twin(), other))
                    self.is_just(True, pairs[-1][0] == bench)
        for word in ("note", "tighten", "loosen", "put", "undo", "lost", "back", "no claim"):
            self.assertGreater(self.seen.get(word, 0), 1, self.seen)

    def begin(self):
        while True:
            made = some_system(self.draw)
            if made.rules:
                return Bench(made), Model(made)

    def count(self, word, many=1):
        self.seen[word] = self.seen.get(word, 0) + many

    def work(self, bench, model):
        system, notes = model.state()
        before = model.stand(notes)
        word = self.draw.choice(["note", "note", "tighten", "tighten", "loosen", "put", "undo"])
        if word == "note":
            pairs = list(checking.claims(self.draw, system))
            if not pairs:
                return
            claim, paper = self.draw.choice(pairs)
            self.assertEqual(bench.note(claim, paper), len(notes) + 1)
            model.calls.append(("note", claim, paper))
            self.count("note")
            return
        if word == "undo":
            many = self.draw.randint(1, 3)
            if many > len(model.calls):
                self.refuses(NothingToUndo, lambda: bench.undo(calls=many), keeps={"wanted": many})
                return
            self.assertEqual(bench.undo(calls=many) if many > 1 else bench.undo(), len(model.calls) - many)
            del model.calls[-many:]
            self.count("undo")
            return
        rule = self.draw.randrange(len(system.rules))
        function, unknowns, guard = system.rules[rule][:3]
        if word == "tighten" and len(guard) < 8:
            call = (word, rule, form(self.draw, system.functions[function][1] + unknowns, 3))
            found = bench.tighten(*call[1:])
        elif word == "loosen" and guard:
            call = (word, rule, self.draw.randrange(len(guard)))
            found = bench.loosen(*call[1:])
        else:
            at = self.draw.randint(0, len(system.rules))
            call = ("put", at, self.draw.choice([draws.rule(self.draw, system.functions), *system.rules]))
            found = bench.put(*call[1:])
        model.calls.append(call)
        self.look_at_edit(model, call, notes, before, found)

    def look_at_edit(self, model, call, notes, before, found):
        system, behind = model.state()
        after = model.stand(behind)
        self.assertEqual(found, tuple(number for number in before if number not in after))
        self.count(call[0])
        self.count("lost", len(found))
        self.count("back", len(set(after) - set(before)))
        self.count("no claim", sum(not is_claim(claim) for claim, _ in behind.values()))
        for number in found:
            word = behind[number][0][0]
            # [18.5]
            self.assertFalse(call[0] == "tighten" and word in NINE)
            if word in ("falls", "balanced", "taken out", "stays"):
                changed = call[1]
                self.assertIn(changed, [rule for rule, _ in notes[number][0][3]])

    def test_watch(self):
        broken = 0
        for _ in range(60):
            bench, model = self.begin()
            for claim, paper in checking.claims(self.draw, bench.system):
                if claim[0] in (*WATCHED, "taken out") and len(bench) < 12:
                    bench.note(claim, paper)
                    model.calls.append(("note", claim, paper))
            for rule in range(len(bench.system.rules)):
                # Guards are taken out, costs are raised, other arguments are told.
                while bench.system.rules[rule][2] and self.draw.random() < 0.6:
                    bench.loosen(rule, 0)
                    model.calls.append(("loosen", rule, 0))
                if self.draw.random() < 0.5:
                    told = (*bench.system.rules[rule][:3], 1000, *bench.system.rules[rule][4:])
                    if self.draw.random() < 0.5:
                        told = draws.rule(self.draw, bench.system.functions)
                    bench.put(rule, told)
                    model.calls.append(("put", rule, told))
            system, notes, standing = self.equal(bench, model)
            for inputs, choices in checking.some_runs(self.draw, system, 4):
                found = bench.watch(inputs, choices)
                expected = {}
                for number, (claim, _) in notes.items():
                    if claim[0] in WATCHED and is_claim(claim):
                        at = broken_at(claim, inputs, choices)
                        if at is not None:
                            expected[number] = at
                self.assertEqual(found, expected)
                self.assertEqual(list(found), sorted(found))
                # [18.5]
                self.assertFalse(set(found) & set(standing))
                broken += len(found)
            self.equal(bench, model)
        self.assertGreater(broken, 30)


class OneBenchTest(Benches):
    def test_by_hand(self):
        bench = Bench(DOWN)
        self.assertEqual((str(bench), len(bench), bench.notes, bench.standing, bench.calls, bench.system), ("bench of 2 rules, 0 of 0 notes stand", 0, {}, (), (), DOWN))
        self.assertEqual([bench.note(*HOLDS), bench.note(*MORE), bench.note(("ends", DOWN), ENDS)], [1, 2, 3])
        self.assertEqual(str(bench), "bench of 2 rules, 3 of 3 notes stand")
        # x >= 3 for a step: the run is lost, the others are led on.
        self.assertEqual(bench.tighten(0, (-3, 1)), (2,))
        self.assertEqual((bench.standing, bench.notes[1][1][1]), ((1, 3), ((1, 0, 0, 1, 0), (1, 0, 1))))
        self.assertEqual(str(bench), "bench of 2 rules, 2 of 3 notes stand")
        # Loosened again: the run comes back; the sums that were led on have a number too many now.
        self.assertEqual(bench.loosen(0, 1), (1, 3))
        self.assertEqual((bench.system, bench.standing), (DOWN, (2,)))
        self.assertEqual(bench.calls[3:], (("tighten", 0, (-3, 1)), ("loosen", 0, 1)))
        self.assertEqual(bench.undo(calls=2), 3)
        self.assertEqual((bench.standing, bench.notes[1]), ((1, 2, 3), HOLDS))
        # A rule behind all; one in the place of another.
        more = (0, 0, ((0, 1),), 9, (), (0, 0))
        self.assertEqual((bench.put(2, more), len(bench.system.rules)), ((), 3))
        self.assertEqual(bench.put(2, (0, 0, ((0, 1),), 9, ((0, ((-9, 1),)),), (0, 0, 0))), (1, 3))
        self.assertEqual((bench.undo(calls=2), bench.standing), (3, (1, 2, 3)))

    def test_what_stands_again(self):
        # [18.6]. A note that is lost, and true all the same: loosening does not lead papers back.
        bench = Bench(DOWN)
        bench.note(*HOLDS)
        bench.tighten(0, (-3, 1))
        self.assertEqual(bench.loosen(0, 1), (1,))
        self.assertEqual((bench.system, bench.standing, bench.notes[1][1][1][0]), (DOWN, (), (1, 0, 0, 1, 0)))
        # What does not stand is not led on: so its paper has numbers for two rows of the guard, and stands again.
        self.assertEqual(bench.tighten(0, (0, 0)), ())
        self.assertEqual((bench.standing, bench.notes[1][1][1][0]), ((1,), (1, 0, 0, 1, 0)))
        self.assertEqual(bench.put(0, (0, 0, ((0, 1), (-1, 1)), 1, ((0, ((-1, 1),)),), (0, 0, 0))), (1,))
        self.assertEqual(bench.put(0, (0, 0, ((-1, 1), (-3, 1)), 1, ((0, ((-1, 1),)),), (0, 0, 0))), ())
        self.assertEqual(bench.standing, (1,))

    def test_edges_that_are_gone(self):
        none = (((),), ((),))
        bench = Bench(DOWN)
        rank = (((0, 1),), ((1, 0, 0), (1, 1, 1)))
        bench.note(("falls", DOWN, none, ((0, 0),), (0, 0)), rank)
        ended = (0, 0, ((-1, 1),), 1, (), (0, 0))
        self.assertEqual(bench.put(0, ended), (1,))
        self.is_just(False, is_claim(bench.notes[1][0]))
        self.assertEqual(bench.watch((3,), ()), {})
        self.assertEqual((bench.put(0, DOWN.rules[0]), bench.standing), ((), (1,)))

    def test_errors_change_nothing(self):
        bench = Bench(DOWN)
        bench.note(*HOLDS)
        bench.tighten(0, (-3, 1))
        before = (bench.system, bench.notes, bench.standing, bench.calls, str(bench))
        here = bench.system
        more = (here, (3,), 2)
        for value in strange():
            if not isinstance(value, System):
                self.refuses(InvalidSystem, Bench, value)
            self.refuses(InvalidClaim, bench.note, value, None)
            self.refuses(Refused, bench.note, ("more", *more), value, keeps={"reason": ("paper",)}) if value != () else None
            self.refuses(InvalidNumber, bench.tighten, value, None, keeps={"given": value})
            self.refuses(InvalidNumber, bench.loosen, value, None, keeps={"given": value})
            self.refuses(InvalidNumber, bench.put, value, None, keeps={"given": value})
            self.refuses(InvalidForm, bench.tighten, 0, value)
            self.refuses(InvalidNumber, bench.loosen, 0, value, keeps={"given": value})
            self.refuses(InvalidSystem, bench.put, 0, value)
            self.refuses(InvalidNumber, lambda: bench.undo(calls=value), keeps={"given": value})
            self.refuses(InvalidForm, bench.watch, value, None)
            if value != ():
                self.refuses(InvalidOperation, bench.watch, (3,), value)
            self.is_just(False, bench == value)
            self.is_just(True, bench != value)
        # A claim about another system, and of kinds that are about none.
        for claim in [HOLDS[0], ("ends", DOWN), ("point", 0, ()), ("follows", 0, (), (0,)), ("more", here, (-3,), 2)]:
            self.refuses(InvalidClaim, bench.note, claim, (1,))
        self.refuses(Refused, bench.note, ("more", *more), MORE[1], keeps={"reason": ("paper",)})
        self.refuses(Refused, bench.watch, (-1,), (), keeps={"reason": ("given", 0)})
        self.refuses(Refused, bench.watch, (2,), ((0, ()),), keeps={"reason": ("choice", 0)})
        for number in (-1, 3):
            self.refuses(InvalidNumber, bench.put, number, DOWN.rules[0], keeps={"given": number})
        for number in (0, -1):
            self.refuses(InvalidNumber, lambda: bench.undo(calls=number), keeps={"given": number})
        self.refuses(NothingToUndo, lambda: bench.undo(calls=3), keeps={"wanted": 3})
        self.refuses(NothingToUndo, Bench(DOWN).undo, keeps={"wanted": 1})
        self.refuses(TypeError, bench.undo, 1)
        self.refuses(InvalidNumber, bench.loosen, 0, 2, keeps={"given": 2})
        self.assertEqual((bench.system, bench.notes, bench.standing, bench.calls, str(bench)), before)

    def test_most_notes(self):
        bench = Bench(DOWN)
        for number in range(1, 41):
            self.assertEqual(bench.note(*MORE), number)
        self.refuses(TooMany, bench.note, *MORE, keeps={"limit": 40})
        self.refuses(Refused, bench.note, MORE[0], (), keeps={"reason": ("paper",)})
        self.refuses(InvalidClaim, bench.note, None, None)
        self.assertEqual((len(bench), str(bench)), (40, "bench of 2 rules, 40 of 40 notes stand"))
        bench.undo(calls=39)
        self.assertEqual((len(bench), bench.note(*MORE)), (1, 2))

    def test_most_calls(self):
        bench = Bench(DOWN)
        for _ in range(80):
            bench.tighten(1, (0, 0))
            bench.loosen(1, 1)
        for _ in range(39):
            bench.note(*MORE)
        bench.put(0, DOWN.rules[0])
        self.assertEqual(len(bench.calls), 200)
        for call, args in [(bench.tighten, (1, (0, 0))), (bench.loosen, (1, 0)), (bench.put, (0, DOWN.rules[0])), (bench.note, MORE)]:
            self.refuses(TooMany, call, *args, keeps={"limit": 200})
        # Behind all others.
        self.refuses(InvalidForm, bench.tighten, 1, None)
        self.refuses(InvalidNumber, bench.loosen, 1, 1, keeps={"given": 1})
        self.refuses(InvalidSystem, bench.put, 0, None)
        self.refuses(Refused, bench.note, MORE[0], (), keeps={"reason": ("paper",)})
        self.assertEqual(bench.watch((0,), ()), {})
        twin = bench.twin()
        self.assertEqual(twin.undo(calls=200), 0)
        self.assertEqual((twin.notes, twin.system, twin == Bench(DOWN)), ({}, DOWN, True))
        self.assertEqual(len(bench.calls), 200)
        self.assertEqual((bench.undo(), bench.note(*MORE)), (199, 40))
        self.refuses(TooMany, bench.note, *MORE, keeps={"limit": 40})

    def test_equal(self):
        one, other = Bench(DOWN), Bench(DOWN)
        self.is_just(True, one == other)
        self.is_just(False, one != other)
        one.note(*MORE)
        self.is_just(False, one == other)
        other.note(*MORE)
        self.is_just(True, one == other)
        # The same system and notes, other calls.
        one.tighten(0, (0, 0))
        one.loosen(0, 1)
        self.assertEqual((one.system, one.notes), (other.system, other.notes))
        self.is_just(False, one == other)
        one.undo(calls=2)
        self.is_just(True, one == other)
        self.is_just(False, Bench(DOWN) == Bench(ROUND))
        self.is_just(False, one == DOWN)
        self.is_just(True, one in [other])

    def test_nothing_is_shared(self):
        poly = {(1,): 5, (0,): 9}
        keep, sums = checking.held(DOWN)
        paper = next(paper for claim, paper in checking.cost_claims(self.draw, DOWN, keep, sums) if claim[0] == "within")
        bench = Bench(DOWN)
        bench.note(("within", DOWN, poly), paper)
        poly.clear()
        twin = bench.twin()
        for _ in range(2):
            self.assertEqual(bench.notes[1][0][2], {(0,): 9, (1,): 5})
            self.assertEqual(list(bench.notes[1][0][2]), [(0,), (1,)])
            self.assertEqual(bench.calls[0][1][2], {(0,): 9, (1,): 5})
            self.assertEqual(bench.standing, (1,))
            bench.notes[1][0][2].clear()
            bench.calls[0][1][2].clear()
            bench.notes.clear()
            twin.notes[1][0][2].clear()
        endings = {(1, (4,)): (0, (1, ()))}
        claim, paper = ("for ever", ROUND), ("round", (4,), ((), (((0, ()), 1),), endings))
        bench = Bench(ROUND)
        bench.note(claim, paper)
        endings.clear()
        for _ in range(2):
            self.assertEqual(bench.notes[1][1][2][2], {(1, (4,)): (0, (1, ()))})
            self.assertEqual(bench.calls[0][2][2][2], {(1, (4,)): (0, (1, ()))})
            bench.notes[1][1][2][2].clear()
            bench.calls[0][2][2][2].clear()
        self.assertEqual((bench.put(2, ROUND.rules[1]), bench.standing), ((), (1,)))

    def test_twins(self):
        bench = Bench(DOWN)
        bench.note(*MORE)
        twin = bench.twin()
        twin.note(*HOLDS)
        twin.tighten(0, (-3, 1))
        self.assertEqual((len(bench), len(twin), bench.system, bench.calls), (1, 2, DOWN, (("note", *MORE),)))
        bench.undo()
        self.assertEqual((len(bench), len(twin), twin.standing), (0, 2, (2,)))
        self.assertEqual(twin.undo(calls=3), 0)

    def test_iterating(self):
        self.refuses(TypeError, iter, Bench(DOWN))
        self.refuses(TypeError, lambda: Bench(DOWN) + Bench(DOWN))
        self.refuses(TypeError, lambda: Bench(DOWN) < Bench(DOWN))


if __name__ == "__main__":
    unittest.main()
