import itertools
import random
import unittest

from fallorflow.errors import InvalidOperation, InvalidSystem, Refused, TooMany
from fallorflow.ever.counters import are_counters, is_shelf_tree, is_turns, moves, need_of, turns_or_shelves, walk_of, walk_ring
from fallorflow.ever.rings import first_break, is_ring, round_of, shift_of
from fallorflow.exact.costs import exact_cost
from fallorflow.fall.trees import tree_or_stay
from fallorflow.rules.machine import Standing
from fallorflow.rules.system import System, edges, empty_keep
from tests import draws, papers
from tests.bending import bent, longer
from tests.values import Refusing, strange

LONG = 10 ** 80
PAIR = System((("f", 2), ("g", 2)), (
    (0, 0, ((0, 1, 0), (0, 0, 1)), 1, ((1, ((-2, 1, 0), (1, 0, 1))),), (0, 0, 0, 0)),
    (1, 0, ((0, 1, 0), (0, 0, 1)), 1, ((0, ((2, 1, 0), (-1, 0, 1))),), (0, 0, 0, 0)),
    (0, 0, ((0, 1, 0), (-1, 0, 1)), 1, ((0, ((0, 1, 0), (-1, 0, 1))),), (0, 0, 0, 0))))
LESS = System((("f", 1),), ((0, 0, ((-1, 1),), 1, ((0, ((-1, 1),)),), (0, 0, 0)),))
TREE = (((0,), ((1,), (0,)), ()),)
FALL = System((("f", 1),), ((0, 0, ((0, 1),), 1, ((0, ((0, 0),)),), (0, 0, 0)),))


def move(source, goal, effect, leasts=None):
    many = len(effect)
    units = [tuple(int(place == at) for place in range(many)) for at in range(many)]
    guard = tuple((-least, *row) for least, row in zip(leasts or [0] * many, units))
    return (source, 0, guard, 1, ((goal, tuple((number, *row) for number, row in zip(effect, units))),), (0,) * (many + 2))


def counters(draw, most_moves=6, size=2):
    many = draw.randint(1, 3)
    count = draw.randint(1, 3)
    functions = tuple((name, many) for name in draw.sample(draws.NAMES, count))
    rules = []
    for _ in range(draw.randint(1, most_moves)):
        effect = tuple(draw.choice([0, draw.randint(-size, size)]) for _ in range(many))
        made = move(draw.randrange(count), draw.randrange(count), effect, [draw.randint(-1, 2) for _ in range(many)])
        if draw.random() < 0.3:
            made = (*made[:2], made[2] + made[2][:1], *made[3:])
        rules.append(made)
        if draw.random() < 0.2:
            rules.append((draw.randrange(count), 0, made[2][:draw.randint(0, 2)], 2, (), (0,) * (many + 1)))
    return System(functions, tuple(rules))


def effect_of(system, rule):
    return [row[0] for row in system.rules[rule][4][0][1]]


def look_at_turns(system, value):
    """Even and joined turns that lose nothing, added up."""
    papers.tuples(None, value)
    found = [index for index, rule in enumerate(system.rules) if rule[4]]
    for pair in value:
        papers.row(2, pair)
        papers.need(pair[0] in found and pair[1] >= 1)
    papers.need(value and [rule for rule, _ in value] == sorted({rule for rule, _ in value}))
    balance, total = {}, [0] * system.functions[0][1]
    for rule, times in value:
        source, goal = system.rules[rule][0], system.rules[rule][4][0][0]
        balance[source] = balance.get(source, 0) - times
        balance[goal] = balance.get(goal, 0) + times
        total = [a + times * b for a, b in zip(total, effect_of(system, rule))]
    papers.need(not any(balance.values()) and min(total) >= 0)
    touched = {system.rules[value[0][0]][0]}
    for _ in value:
        for rule, _ in value:
            both = {system.rules[rule][0], system.rules[rule][4][0][0]}
            if both & touched:
                touched |= both
    papers.need(touched == set(balance))


def parts_of(system, lot):
    components, _ = papers.parted(system, tuple((rule, 0) for rule in lot))
    return [tuple(rule for rule, _ in component) for component in components]


def look_at_shelf_tree(system, lot, value):
    parts = parts_of(system, lot)
    papers.tuples(len(parts), value)
    for part, triple in zip(parts, value):
        papers.tuples(3, triple)
        papers.row(len(part), triple[0])
        papers.need(triple[0] == part)
        papers.tuples(2, triple[1])
        weights, heights = triple[1]
        papers.row(system.functions[0][1], weights, 0)
        papers.row(len(system.functions), heights)
        changes = {}
        for rule in part:
            sums = sum(a * b for a, b in zip(weights, effect_of(system, rule)))
            changes[rule] = sums + heights[system.rules[rule][4][0][0]] - heights[system.rules[rule][0]]
        papers.need(max(changes.values()) <= 0 and min(changes.values()) < 0)
        look_at_shelf_tree(system, [rule for rule in part if changes[rule] == 0], triple[2])


is_own_turns = papers.judged(look_at_turns)


@papers.judged
def is_own_tree(system, value):
    look_at_shelf_tree(system, [index for index, rule in enumerate(system.rules) if rule[4]], value)


class Counters(Refusing, unittest.TestCase):
    def setUp(self):
        self.draw = random.Random(141)


class KindsTest(Counters):
    def bent_rule(self, **told):
        """The system of one move, one part of its rule, of its guard or of its call being changed."""
        parts = {"unknowns": 0, "guard": ((0, 1, 0), (-3, 0, 1)), "calls": ((0, ((-1, 1, 0), (5, 0, 1))),), "functions": (("f", 2),), "result": None}
        parts.update(told)
        result = parts["result"] or (0,) * (3 + parts["unknowns"] + len(parts["calls"]))
        return System(parts["functions"], ((0, parts["unknowns"], parts["guard"], 1, parts["calls"], result),))

    def test_conditions(self):
        unit = ((-1, 1, 0), (5, 0, 1))
        both = (("f", 2), ("g", 2))
        for expected, told in [
                (True, {}), (True, {"guard": ((0, 1, 0), (-3, 0, 1), (7, 1, 0), (0, 1, 0))}), (True, {"guard": ((0, 0, 1), (9, 1, 0))}), (True, {"functions": both}),
                (True, {"calls": ()}), (True, {"calls": (), "guard": ()}), (True, {"calls": (), "guard": ((4, 0, 1),)}), (True, {"result": (3, 4, 5, 6)}),
                (False, {"functions": (("f", 2), ("g", 1))}), (False, {"functions": (("f", 2), ("g", 3))}),
                (False, {"unknowns": 1, "guard": ((0, 1, 0, 0), (-3, 0, 1, 0)), "calls": ((0, ((-1, 1, 0, 0), (5, 0, 1, 0))),)}),
                (False, {"calls": ((0, unit), (0, ((-1, 1, 0, 0), (5, 0, 1, 0))))}),
                (False, {"guard": ((0, 1, 0),)}), (False, {"guard": ()}), (False, {"guard": ((0, 1, 0), (0, 1, 1))}), (False, {"guard": ((0, 1, 0), (-3, 0, 1), (0, 0, 0))}),
                (False, {"guard": ((0, 1, 0), (-3, 0, 2))}), (False, {"guard": ((0, 1, 0), (-3, 0, -1))}), (False, {"guard": ((0, 1, 0), (0, 0, 1), (0, 1, 1))}),
                (False, {"guard": ((0, -1, 0), (0, 1, 0), (0, 0, 1))}), (False, {"calls": (), "guard": ((4, 0, -1),)}), (False, {"calls": (), "guard": ((4, 0, 0),)}),
                (False, {"calls": ((0, ((-1, 1, 0), (5, 0, 2))),)}), (False, {"calls": ((0, ((-1, 1, 1), (5, 0, 1))),)}), (False, {"calls": ((0, ((-1, 0, 1), (5, 1, 0))),)}),
                (False, {"calls": ((0, ((-1, 1, 0), (5, 0, 0))),)}), (False, {"calls": ((0, ((-1, 1, 0), (5, 0, -1))),)})]:
            made = self.bent_rule(**told)
            self.is_just(expected, are_counters(made), told)
            if not expected:
                self.refused_everywhere(made)
            else:
                self.assertEqual(moves(made), (0,) if made.rules[0][4] else ())

    def refused_everywhere(self, made):
        for call, more in [(moves, ()), (turns_or_shelves, ()), (is_turns, (None,)), (is_shelf_tree, (None,)), (walk_of, (None,)), (need_of, (None,)), (walk_ring, (None,))]:
            self.refuses(Refused, call, made, *more, keeps={"reason": ("counters",)})

    def test_no_parameters(self):
        made = System((("f", 0),), ())
        self.is_just(False, are_counters(made))
        self.refused_everywhere(made)
        self.is_just(True, are_counters(System((("f", 1),), ())))
        self.assertEqual((moves(System((("f", 1),), ())), turns_or_shelves(System((("f", 1),), ()))), ((), ("shelves", ())))

    def test_drawn(self):
        for _ in range(200):
            made = counters(self.draw)
            self.is_just(True, are_counters(made))
            self.assertEqual(moves(made), tuple(index for index, rule in enumerate(made.rules) if rule[4]))
            rules = list(made.rules)
            at = self.draw.randrange(len(rules))
            if rules[at][4]:
                goal, forms = rules[at][4][0]
                forms = (*forms[:-1], (*forms[-1][:-1], self.draw.choice([0, 2, -1])))
                rules[at] = (*rules[at][:4], ((goal, forms),), rules[at][5])
                self.is_just(False, are_counters(System(made.functions, tuple(rules))))

    def test_systems(self):
        for value in strange():
            if not isinstance(value, System):
                for call, more in [(are_counters, ()), (moves, ()), (turns_or_shelves, ()), (is_turns, (None,)), (is_shelf_tree, (None,)), (walk_of, (None,)),
                                   (need_of, (None,)), (walk_ring, (None,))]:
                    self.refuses(InvalidSystem, call, value, *more)


class EitherOrTest(Counters):
    def some_turns(self, made):
        """Whether there are turns with few times each, all of them being tried."""
        found = [index for index, rule in enumerate(made.rules) if rule[4]]
        for times in itertools.product(range(4), repeat=len(found)):
            if any(times) and is_own_turns(made, tuple((rule, number) for rule, number in zip(found, times) if number)):
                return True
        return False

    def test_drawn(self):
        seen = {"turns": 0, "shelves": 0}
        tried = [0, 0]
        for turn in range(260):
            made = counters(self.draw, 5 if turn % 2 else 14, 2 if turn % 3 else 40)
            word, found = turns_or_shelves(made)
            seen[word] += 1
            self.assertEqual(turns_or_shelves(made), (word, found))
            for judge, own, name in [(is_turns, is_own_turns, "turns"), (is_shelf_tree, is_own_tree, "shelves")]:
                self.is_just(word == name, judge(made, found))
                self.is_just(word == name, own(made, found))
            if len(moves(made)) <= 5:
                some = self.some_turns(made)
                tried[some] += 1
                self.assertTrue(word == "turns" or not some)
            if word == "turns":
                self.look_at_walk(made, found)
        self.assertGreater(min(seen.values()), 40)
        self.assertGreater(min(tried), 20)

    def look_at_walk(self, made, turns):
        if sum(times for _, times in turns) > 1000:
            self.refuses(TooMany, walk_of, made, turns, keeps={"limit": 1000})
            return
        walk = walk_of(made, turns)
        self.assertEqual([(rule, walk.count(rule)) for rule in sorted(set(walk))], list(turns))
        for rule, other in zip(walk, walk[1:] + walk[:1]):
            self.assertEqual(made.rules[rule][4][0][0], made.rules[other][0])
        need = need_of(made, walk)
        for values in [need, *[tuple(number - (place == at) for place, number in enumerate(need)) for at in range(len(need))], tuple(number + 3 for number in need)]:
            can = all(a >= b for a, b in zip(values, need))
            behind = self.gone(made, walk, values)
            self.assertEqual(behind is not None, can)
            if can:
                # It loses nothing: so it can be gone again.
                self.assertTrue(all(a >= b for a, b in zip(behind, values)))
        if len(walk) <= 8:
            ring = walk_ring(made, walk)
            self.assertEqual(ring, tuple((rule, ()) for rule in walk))
            self.is_just(True, is_ring(made, ring))
            self.assertIsNone(first_break(made, ring, need))
            self.assertIsNotNone(shift_of(made, ring))
        else:
            self.refuses(TooMany, walk_ring, made, walk, keeps={"limit": 8})

    def gone(self, made, walk, values):
        """The values behind a walk, by the guards of its moves, or None."""
        for rule in walk:
            _, _, guard, _, ((_, forms),), _ = made.rules[rule]
            if any(row[0] + sum(a * b for a, b in zip(row[1:], values)) < 0 for row in guard):
                return None
            values = tuple(form[0] + number for form, number in zip(forms, values))
        return values

    def test_ranks_agree(self):
        # [14.7] and stage 9: where nothing is asked beside leasts, a tree of ranks is there just if one of shelves is.
        seen = [0, 0]
        for _ in range(80):
            made = counters(self.draw, 5)
            word = tree_or_stay(made, empty_keep(made), edges(made))[0]
            self.assertEqual(word == "tree", turns_or_shelves(made)[0] == "shelves")
            seen[word == "tree"] += 1
        self.assertGreater(min(seen), 15)

    def test_levels(self):
        # x falls; y falls where x stays; both go up in what is left.
        made = System((("f", 2),), (move(0, 0, (-1, 5)), move(0, 0, (0, -1))))
        word, tree = turns_or_shelves(made)
        self.assertEqual(word, "shelves")
        self.assertTrue(tree[0][2] == () or tree[0][2][0][0] == (1,))
        by_hand = (((0, 1), ((1, 0), (0,)), (((1,), ((0, 1), (0,)), ()),)),)
        self.is_just(True, is_shelf_tree(made, by_hand))
        self.is_just(True, is_shelf_tree(made, (((0, 1), ((6, 1), (0,)), ()),)))
        self.is_just(False, is_shelf_tree(made, (((0, 1), ((1, 0), (0,)), ()),)))
        self.is_just(False, is_shelf_tree(made, (((0, 1), ((0, 1), (0,)), ()),)))

    def test_not_joined(self):
        # Two loops that lose nothing together, at functions that no way leads between and back.
        apart = System((("f", 1), ("g", 1)), (move(0, 0, (1,)), move(1, 1, (-1,)), move(0, 1, (0,))))
        self.is_just(False, is_turns(apart, ((0, 1), (1, 1))))
        self.is_just(True, is_turns(apart, ((0, 1),)))
        self.is_just(False, is_turns(apart, ((1, 1),)))
        # [14.8]: even, losing nothing, of two parts: no walk, and no run without end either.
        lost = System((("f", 2), ("g", 2)), (move(0, 0, (1, -1)), move(1, 1, (-1, 1)), move(0, 1, (0, 0))))
        self.assertEqual(turns_or_shelves(lost)[0], "shelves")
        self.is_just(False, is_turns(lost, ((0, 1), (1, 1))))
        self.refuses(InvalidOperation, walk_of, lost, ((0, 1), (1, 1)))

    def test_sums_are_joined(self):
        # Each move has turns that lose nothing; those of the loops alone are even, but not joined.
        made = System((("f", 2), ("g", 2)), (move(0, 0, (1, -1)), move(1, 1, (-1, 1)), move(0, 1, (0, 0)), move(1, 0, (0, 0))))
        word, found = turns_or_shelves(made)
        self.assertEqual(word, "turns")
        self.is_just(False, is_turns(made, ((0, 1), (1, 1))))
        self.is_just(True, is_turns(made, ((0, 1), (1, 1), (2, 1), (3, 1))))
        self.assertEqual(sorted(walk_of(made, ((0, 2), (1, 2), (2, 1), (3, 1)))), [0, 0, 1, 1, 2, 3])

    def test_most_moves(self):
        made = System((("f", 1),), tuple(move(0, 0, (-1 - at,)) for at in range(25)))
        self.refuses(TooMany, turns_or_shelves, made, keeps={"limit": 24})
        some = System((("f", 1),), made.rules[:24] + ((0, 0, (), 0, (), (0, 0)),))
        self.assertEqual(turns_or_shelves(some)[0], "shelves")
        self.is_just(True, is_shelf_tree(made, ((tuple(range(25)), ((1,), (0,)), ()),)))
        deep = ()
        for at in reversed(range(24)):
            deep = ((tuple(range(at, 24)), ((0,), (0,)), deep),)
        self.is_just(False, is_shelf_tree(some, deep))

    def test_many_levels(self):
        # 80 functions can't be: 40 of them, each with moves round: one height for each level.
        many = 40
        names = [one + other for one in "abcdefg" for other in "abcdefg"]
        rules = [move(at, (at + 1) % many, (-1,)) for at in range(many)]
        made = System(tuple((name, 1) for name in names[:many]), tuple(rules))
        whole = ((tuple(range(many)), ((1,), (0,) * many), ()),)
        self.is_just(True, is_shelf_tree(made, whole))
        # Only the last one falls, by a height for each function.
        heights = tuple(at for at in range(many))
        last = ((tuple(range(many)), ((1,), heights), ()),)
        self.is_just(True, is_shelf_tree(made, last))
        self.is_just(True, is_own_tree(made, last))
        loops = System((("f", 5),), tuple(move(0, 0, tuple(-int(at % 5 == place) for place in range(5))) for at in range(80)))
        tree, lot = (), tuple(range(80))
        for place in reversed(range(5)):
            left = tuple(at for at in lot if at % 5 >= place)
            tree = ((left, (tuple(int(spot == place) for spot in range(5)), (7,)), tree),)
        self.is_just(True, is_shelf_tree(loops, tree))
        self.is_just(False, is_shelf_tree(loops, tree[0][2]))

    def test_what_is_not_true(self):
        # [14.8]: PAIR can begin with its second move where its need does not hold.
        self.assertEqual(need_of(PAIR, (0, 1)), (2, 0))
        self.assertIsNone(self.gone(PAIR, (0, 1), (1, 5)))
        self.assertIsNotNone(self.gone(PAIR, (0,), (1, 5)))
        # Not every move asks every counter: each move has turns that lose nothing of what it asks, and no run goes on
        # for ever, as 3 x + 2 y falls along both.
        made = System((("f", 2),), ((0, 0, ((0, 1, 0),), 1, ((0, ((-1, 1, 0), (1, 0, 1))),), (0,) * 4), (0, 0, ((0, 0, 1),), 1, ((0, ((1, 1, 0), (-2, 0, 1))),), (0,) * 4)))
        self.is_just(False, are_counters(made))
        for x in range(5):
            for y in range(5):
                self.assertEqual(exact_cost(made, (x, y), 0)[0], "most")


class JudgesTest(Counters):
    def test_bent(self):
        bends = [0, 0]
        for turn in range(150):
            made = counters(self.draw, 5)
            word, found = turns_or_shelves(made)
            judge, own = (is_turns, is_own_turns) if word == "turns" else (is_shelf_tree, is_own_tree)
            for value in [*bent(self.draw, found, 8), longer(found, 2) if word == "turns" else found]:
                expected = own(made, value)
                self.is_just(expected, judge(made, value), repr(value)[:300])
                bends[expected] += 1
        self.assertGreater(min(bends), 100)

    def test_long_ones(self):
        turns = ((0, LONG), (1, LONG))
        self.is_just(True, is_turns(PAIR, turns))
        self.refuses(TooMany, walk_of, PAIR, turns, keeps={"limit": 1000})
        self.refuses(InvalidOperation, walk_of, PAIR, ((0, LONG), (1, LONG + 1)))
        self.is_just(True, is_shelf_tree(LESS, (((0,), ((LONG,), (-LONG,)), ()),)))

    def test_other_values(self):
        for value in [*strange(), ((0, 1),), ((0, 0), (1, 0)), ((1, 1), (0, 1)), ((0, 1), (1, 1), (1, 1)), [(0, 1), (1, 1)], ([0, 1], (1, 1)), ((0, 1), (True, 1)), ((0, True), (1, 1)),
                      ((0, 1), (1, 1), (3, 1)), ((0, 1, 1), (1, 1)), ((0, -1), (1, -1)), ((2, 1),), ((0, "1"), (1, 1))]:
            self.is_just(False, is_turns(PAIR, value), repr(value)[:200])
            self.refuses(InvalidOperation, walk_of, PAIR, value)
        self.is_just(True, is_turns(PAIR, ((0, 1), (1, 1))))
        for value in [*strange(), TREE[0], list(TREE), [TREE[0]], TREE * 2, (TREE[0][:2],), ((*TREE[0], ()),), (((0,), ((1,), (0,)), None),), (((0,), ((1,), (0, 0)), ()),),
                      (((0,), ((1, 1), (0,)), ()),), (((0,), ((-1,), (0,)), ()),), (((False,), ((1,), (0,)), ()),), (([0], ((1,), (0,)), ()),), (((0,), [(1,), (0,)], ()),),
                      (((0,), ((True,), (0,)), ()),), (((0,), ((1,), (False,)), ()),), (((0,), ((1,), (0,)), TREE),), (((0, 0), ((1,), (0,)), ()),)]:
            if value != ():
                self.is_just(False, is_shelf_tree(LESS, value), repr(value)[:200])
        self.is_just(False, is_shelf_tree(LESS, ()))
        self.is_just(True, is_shelf_tree(LESS, TREE))


class WalksTest(Counters):
    def test_walks(self):
        for value in [*strange(), (2, 1), (0,), (0, 0), (0, 1, 1), (0, 1, 0), [0, 1], (0, True), (False, 1), (0, 1, 3), (3,), (-1,), ((0, 1),), (0, 1) * 501, ("0", 1)]:
            self.refuses(InvalidOperation, need_of, PAIR, value)
            self.refuses(InvalidOperation, walk_ring, PAIR, value)
        for value in [(0, 1), (1, 0), (2,), (2, 2, 0, 1), (0, 1) * 500, (2,) * 1000]:
            self.assertEqual(len(need_of(PAIR, value)), 2)
        self.refuses(InvalidOperation, need_of, PAIR, (2,) * 1001)
        self.assertEqual(walk_ring(PAIR, (2,) * 8), ((2, ()),) * 8)
        self.refuses(TooMany, walk_ring, PAIR, (2,) * 9, keeps={"limit": 8})
        self.refuses(TooMany, walk_ring, PAIR, (0, 1) * 500, keeps={"limit": 8})
        self.assertEqual(round_of(PAIR, walk_ring(PAIR, (0, 1))), (((0, 1, 0), (0, 0, 1), (-2, 1, 0), (1, 0, 1)), ((0, 1, 0), (0, 0, 1))))

    def test_thousand_moves(self):
        walk = walk_of(PAIR, ((0, 500), (1, 500)))
        self.assertEqual((len(walk), walk.count(0)), (1000, 500))
        self.refuses(TooMany, walk_of, PAIR, ((0, 501), (1, 501)), keeps={"limit": 1000})

    def test_needs(self):
        # The greatest least counts; what moves ahead add lessens it.
        made = System((("f", 1),), ((0, 0, ((-3, 1), (-5, 1), (2, 1)), 1, ((0, ((-2, 1),)),), (0, 0, 0)), (0, 0, ((-1, 1),), 1, ((0, ((7, 1),)),), (0, 0, 0))))
        self.assertEqual([need_of(made, walk) for walk in [(0,), (0, 0), (0, 0, 0), (1, 0), (1,), (0, 1, 0)]], [(5,), (7,), (9,), (1,), (1,), (5,)])
        for walk in [(0, 0, 1), (1, 1, 0), (0, 1, 0, 0)]:
            need, = need_of(made, walk)
            tried = [x for x in range(-20, 20) if self.can_go(made, walk, x)]
            self.assertEqual(tried[0], need)

    def can_go(self, made, walk, x):
        standing = Standing(made, (x,))
        try:
            for rule in walk:
                standing = standing.after((rule, ()))
        except Refused:
            return False
        return True


if __name__ == "__main__":
    unittest.main()
