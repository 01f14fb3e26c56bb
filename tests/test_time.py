"""How long the greatest cases take that the bounds let, each told on a line of its own."""
import random
import sys
import time
import unittest

from fallorflow.base.forms import are_rows
from fallorflow.bills.bills import billed, is_bill, is_crop
from fallorflow.bills.least import is_least_bill, is_shared, is_split, least_bill, shared
from fallorflow.bounds.polys import poly_at, poly_product
from fallorflow.errors import TooMany
from fallorflow.fall.ranks import falling, is_balance, is_rank, rank_or_balance
from fallorflow.fall.trees import is_stay, is_tree, rounds, tree_or_stay
from fallorflow.hold.closed import settled
from fallorflow.hold.keeps import duties, greatest, inductive, is_greatest_paper, is_inductive_paper, united, usual
from fallorflow.lots.rows import is_bar, is_point, point_or_bar
from fallorflow.rules.system import System, edges, empty_keep
from fallorflow.texts.lead import system_of
from fallorflow.texts.programs import is_program
from fallorflow.texts.short import short
from fallorflow.texts.speech import program_text, read_program
from tests import hidden

LONG = 10 ** 60 - 1
NAMES = [one + other for one in "abcdefghij" for other in "abcdefghij"]
WIDE = tuple([tuple([(7 * a + 3 * b) % 7 - 3 for b in range(15)]) for a in range(40)])


def once(call):
    begin = time.perf_counter()
    found = call()
    return time.perf_counter() - begin, found


def least_time(call, rounds=20, repeats=7):
    return min(once(lambda: [call() for _ in range(rounds)])[0] for _ in range(repeats))


def asked_one_by_one(many, value):
    """Whether rows are rows, as it was asked once: by a call for each integer, with its bounds reckoned anew."""
    def is_whole(part):
        return isinstance(part, int) and not isinstance(part, bool)

    def is_short(part):
        ten = 10
        return is_whole(part) and -ten ** 60 < part < ten ** 60

    def is_row(row):
        return isinstance(row, tuple) and len(row) == many + 1 and all([is_short(part) for part in row])

    return isinstance(value, tuple) and len(value) <= 40 and all([is_row(row) for row in value])


class Timed(unittest.TestCase):
    def timed(self, what, most, call):
        seconds, found = once(call)
        print(f"{what}: {seconds:.2f} s", file=sys.stderr, flush=True)
        self.assertLess(seconds, most, what)
        return found


class RowsTest(Timed):
    def test_asking_for_rows(self):
        # Issue 8: well below half of the time that it took.
        self.assertTrue(are_rows(14, WIDE) and asked_one_by_one(14, WIDE))
        former = least_time(lambda: asked_one_by_one(14, WIDE))
        for what, call in [("are_rows", lambda: are_rows(14, WIDE)), ("is_point", lambda: is_point(14, WIDE, (1,) + (0,) * 14)),
                           ("is_point", lambda: is_point(14, WIDE, None)), ("is_bar", lambda: is_bar(14, WIDE, (0,) * 40))]:
            self.assertLess(least_time(call), 0.45 * former, what)

    def test_forty_judgements(self):
        answer = least_time(lambda: point_or_bar(14, WIDE))
        judged = least_time(lambda: is_point(14, WIDE, (1,) + (0,) * 14))
        print(f"40 rows of 15: an answer {answer / 20 * 1000:.2f} ms, a judgement {judged / 20 * 1000:.2f} ms", file=sys.stderr)
        self.assertLess(judged, answer)


def circle(draw, count, calls, size, is_kept):
    """Functions of five parameters that call one another; all rules keep the order of the parameters, or none."""
    rules = []
    for function in range(count):
        made = []
        for number in range(calls):
            same = [tuple(1 if place == at + 1 else 0 for place in range(8 + number)) for at in range(5)]
            some = [tuple(draw.randint(-size, size) for _ in range(8 + number)) for _ in range(5)]
            made.append(((function + 1 + number) % count, tuple(same if is_kept else some)))
        guard = tuple(tuple(draw.randint(-size, size) for _ in range(8)) for _ in range(4))
        rules.append((function, 2, guard, 1, tuple(made), (0, 1) + (0,) * (6 + calls)))
    chain = [(0, 1, -1, 0, 0, 0), (0, 0, 1, -1, 0, 0), (0, 0, 0, 1, -1, 0), (0, 0, 0, 0, 1, -1), (0, 0, 0, 0, 0, 1)]
    return System(tuple((NAMES[at], 5) for at in range(count)), tuple(rules), tuple(chain))


def dense(draw, system):
    """A keep of twelve rows of sixty digits for all."""
    return tuple(tuple(tuple(tuple(draw.randint(-LONG, LONG) for _ in range(many + 1 + further)) for _ in range(12))
                       for _, many in system.functions) for further in (0, 1))


class KeepsTest(Timed):
    def look_at(self, what, system, keep):
        self.assertLessEqual(len(duties(system, keep)), 400)
        found = self.timed(f"{what}, inductive", 10, lambda: inductive(system, keep))
        self.assertTrue(is_inductive_paper(system, keep, found))
        best, paper = self.timed(f"{what}, greatest", 20, lambda: greatest(system, keep))
        self.assertTrue(self.timed(f"{what}, its judge", 10, lambda: is_greatest_paper(system, keep, best, paper)))
        self.timed(f"{what}, settled", 40, lambda: settled(system, keep))
        self.timed(f"{what}, united", 20, lambda: united(system, best, paper[0], best, paper[0]))
        return best

    def test_many_duties(self):
        draw = random.Random(61)
        for count, calls, size in [(16, 1, 3), (16, 1, 1000000), (10, 2, 3)]:
            for is_kept in (False, True):
                system = circle(draw, count, calls, size, is_kept)
                best = self.look_at(f"{len(duties(system, usual(system)))} duties", system, usual(system))
                if is_kept:
                    self.assertGreater(sum(map(len, best[0])), 60)
        system = circle(draw, 16, 1, 1000000, False)
        self.look_at("400 duties of 60 digits", system, dense(draw, system))


class ProgramsTest(Timed):
    def program(self, form):
        """Forty places, with tests, calls and bodies six deep."""
        lines, depth = ["proc main a b c d e"], 1
        while len([line for line in lines if line.strip() != "end"]) < 40:
            lines.append("  " * depth + (f"while {form} >= 0" if depth < 6 else f"a = {form}"))
            if depth < 6:
                depth += 1
            else:
                while depth > 1:
                    depth -= 1
                    lines.append("  " * depth + "end")
        while depth > 0:
            depth -= 1
            lines.append("  " * depth + "end")
        return "".join(line + "\n" for line in lines)

    def test_forty_places(self):
        for form in ("a - 1", "-100000 a - 100000 b + 100000 c - 99999 d + 99999 e - 100000"):
            text = self.program(form)
            program = self.timed("a program of 40 places, read", 5, lambda: read_program(text))
            self.assertTrue(is_program(program))
            self.assertEqual(program_text(program), text)
            system = system_of(program)
            self.assertEqual(len(system.functions), 40)
            left = self.timed("cut short", 10, lambda: short(system))
            self.assertLess(len(left.functions), 40)
            keep = tuple(tuple(lot[:2] for lot in lots) for lots in usual(system))
            self.timed(f"{len(edges(system))} call edges, settled", 20, lambda: settled(system, keep))

    def test_many_assignments(self):
        text = "proc main a b c d e\n" + "  a = b\n" * 39 + "end\n"
        system = system_of(read_program(text))
        left = self.timed("39 assignments, cut short", 10, lambda: short(system))
        self.assertEqual((len(left.functions), len(left.rules)), (1, 1))


def wide_open(draw, count, rules, calls, guard, entries, size, long):
    """Functions of five parameters; all rows of a function hold at a point and along a direction that are drawn."""
    ways = [[(1, *[draw.randint(-9, 9) for _ in range(5)]), (0, *[draw.randint(-9, 9) for _ in range(5)])] for _ in range(count)]

    def holding(vectors, most):
        while True:
            found = [draw.randint(-most, most) for _ in vectors[0]]
            values = [sum(a * b for a, b in zip(found, vector)) for vector in vectors]
            if min(values) >= 0 or max(values) <= 0:
                return tuple(found) if min(values) >= 0 else tuple(-number for number in found)

    made = []
    for index in range(rules):
        function = index % count
        vectors = [(*vector, *[draw.randint(-9, 9) for _ in range(2)]) for vector in ways[function]]
        told = []
        for number in range(calls):
            forms = tuple(tuple(draw.randint(-size, size) for _ in range(8 + number)) for _ in range(5))
            told.append((draw.randrange(count), forms))
        rows = tuple(holding(vectors, size) for _ in range(guard))
        made.append((function, 2, rows, draw.randint(1, 9), tuple(told), (0,) * (8 + calls)))
    system = System(tuple((NAMES[at], 5) for at in range(count)), tuple(made))
    keep = (tuple(tuple(holding(vectors, long) for _ in range(entries)) for vectors in ways), ((),) * count)
    return system, keep, [vectors[0][1:] for vectors in ways]


class FallsTest(Timed):
    def look_at(self, what, system, keep):
        lot = edges(system)
        word, found = self.timed(f"{what}, one edge", 30, lambda: rank_or_balance(system, keep, lot, lot[0]))
        self.assertTrue((is_rank if word == "rank" else is_balance)(system, keep, lot, lot[0], found))
        self.timed(f"{what}, falling", 60, lambda: falling(system, keep, lot))
        word, found = self.timed(f"{what}, {word}, tree or stay", 60, lambda: tree_or_stay(system, keep, lot))
        judge = is_tree if word == "tree" else is_stay
        self.assertTrue(self.timed(f"{what}, its judge", 10, lambda: judge(system, keep, lot, found)))
        return word

    def test_many_rows(self):
        draw = random.Random(62)
        for count, rules, guard, entries, size, long in [(10, 15, 8, 0, 3, 3), (10, 15, 8, 0, 1000000, 1), (3, 6, 8, 12, 1000000, LONG), (6, 15, 4, 4, 1000000, LONG)]:
            system, keep, _ = wide_open(draw, count, rules, 1, guard, entries, size, long)
            self.look_at(f"{rules} edges, 120 rows, numbers to {size}", system, keep)

    def test_many_edges(self):
        draw = random.Random(63)
        for count, size in [(40, 1), (40, 1000000), (1, 1000000)]:
            system, keep, _ = wide_open(draw, count, 80, 2, 0, 0, size, 1)
            self.look_at(f"160 edges of {count} functions", system, keep)
        system, keep, _ = wide_open(draw, 40, 60, 2, 1, 0, 1000000, 1)
        self.look_at("120 edges, 120 rows", system, keep)

    def test_many_levels(self):
        system = hidden.stairs(5)
        rules = [rule for rule in system.rules for _ in range(16)]
        system = System(system.functions, tuple(rules))
        lot = edges(system)
        self.assertEqual(self.look_at("80 edges on five levels", system, empty_keep(system)), "tree")
        self.assertEqual(set(rounds(system, empty_keep(system), lot).values()), {1, 2, 3, 4, 5})


class BillsTest(Timed):
    def look_at(self, what, system, keep, values):
        word, *_ = found = self.timed(f"{what}, a bill or a crop", 30, lambda: billed(system, keep))
        self.assertTrue((is_bill if word == "bill" else is_crop)(system, keep, found))
        least = self.timed(f"{what}, {word}, the least one", 60, lambda: least_bill(system, keep, 0, values))
        if word == "bill":
            self.assertTrue(is_least_bill(system, keep, 0, values, least))
        lot = edges(system)
        word, *_ = found = self.timed(f"{what}, shared or split", 30, lambda: shared(system, keep, lot))
        self.assertTrue((is_shared if word == "shared" else is_split)(system, keep, lot, found))

    def test_many_equations(self):
        draw = random.Random(64)
        for count, rules, size, long in [(1, 9, 3, 3), (4, 7, 1000000, 1000000), (4, 6, 1000000, LONG), (5, 6, 1000000, LONG), (3, 7, 1000000, LONG)]:
            system, keep, starts = wide_open(draw, count, rules, 1, 8, 12, size, long)
            self.look_at(f"{count} functions, {rules} items, numbers to {len(str(long))} digits", system, keep, starts[0])


class PolysTest(Timed):
    def test_many_members(self):
        draw = random.Random(65)
        one = {(at, 0): 10 ** 300 for at in range(20)}
        other = {(0, at): 10 ** 300 for at in range(15)}
        full = self.timed("a poly of 300 members", 5, lambda: poly_product(2, one, other))
        self.assertEqual(len(full), 300)
        with self.assertRaises(TooMany):
            self.timed("300 members by 300", 10, lambda: poly_product(2, full, full))
        high = {tuple(draw.randint(30, 40) for _ in range(14)): 10 ** 300 for _ in range(300)}
        self.timed("300 members at sizes of 60 digits", 10, lambda: poly_at(14, high, (LONG,) * 14))


if __name__ == "__main__":
    unittest.main()
