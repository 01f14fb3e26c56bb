import random
import unittest
from unittest import mock

from fallorflow.errors import InvalidForm, InvalidNumber, InvalidOperation, InvalidRows
from fallorflow.lots import rows as module
from fallorflow.lots import simplex
from fallorflow.lots.rows import bare, best, follows, is_bar, is_bare, is_clash, is_fall, is_point, is_solution, is_sum
from fallorflow.lots.rows import least, point_or_bar, solved
from tests import judging
from tests.values import Refusing, near_lots, near_misses, strange

LONG = 10 ** 60 - 1


def drawn_rows(draw, many, count, size):
    return tuple(tuple(draw.randint(-size, size) for _ in range(many + 1)) for _ in range(count))


def through(draw, many, count, size):
    """Rows many of which meet in one point, so that much is 0 there."""
    place = [draw.randint(-3, 3) for _ in range(many)]
    found = []
    for row in drawn_rows(draw, many, count, size):
        value = sum(number * part for number, part in zip(row[1:], place))
        found.append((draw.choice([0, 0, 0, 1]) - value, *row[1:]))
    return tuple(found)


class Rows(Refusing, unittest.TestCase):
    def setUp(self):
        self.draw = random.Random(23)

    def look_at(self, many, rows, form):
        """All that is told of rows and a form, judged twice; what was found."""
        word, found = point_or_bar(many, rows)
        judges = {"point": (judging.is_point, is_point), "bar": (judging.is_bar, is_bar)}
        for judge in judges[word]:
            self.assertTrue(judge(many, rows, found), (many, rows, word, found))
        told, paper = follows(many, rows, form)
        if told == "follows":
            self.assertTrue(judging.is_sum(many, rows, form, paper) and is_sum(many, rows, form, paper), (rows, form))
        else:
            self.assertEqual(told, "escapes")
            self.assertTrue(judging.is_point(many, rows, paper) and is_point(many, rows, paper), (rows, form))
            self.assertLess(judging.at(form, paper), 0)
        return word, told, self.look_at_least(many, rows, form, word, told)

    def look_at_least(self, many, rows, form, word, told):
        found = least(many, rows, form)
        if found[0] == "bar":
            self.assertEqual((word, told), ("bar", "follows"))
            self.assertTrue(judging.is_bar(many, rows, found[1]) and len(found) == 2)
        elif found[0] == "falls":
            self.assertEqual((word, told), ("point", "escapes"))
            self.assertTrue(judging.is_point(many, rows, found[1]) and len(found) == 3)
            self.assertTrue(judging.is_fall(many, rows, form, found[2]) and is_fall(many, rows, form, found[2]))
        else:
            self.assertTrue(judging.is_least(many, rows, form, found), (rows, form, found))
            self.assertTrue(judging.is_lowest(found[1]))
            self.assertEqual((word, told), ("point", "follows" if found[1][0] >= 0 else "escapes"))
        return found[0]

    def look_at_bare(self, many, rows):
        chosen = bare(many, rows)
        self.is_just(True, is_bare(many, rows, chosen), (many, rows, chosen))
        self.assertTrue(self.is_bare_here(many, rows, chosen), (many, rows, chosen))
        return chosen

    def is_bare_here(self, many, rows, chosen):
        left = tuple(rows[index] for index in chosen)
        if any(follows(many, left, row)[0] == "escapes" for row in rows):
            return False
        others = [(left[:at] + left[at + 1:], row) for at, row in enumerate(left)]
        return all(follows(many, rest, row)[0] == "escapes" for rest, row in others)

    def look_at_equations(self, signs, equations, form):
        word, found = solved(signs, equations)
        judges = {"solution": (judging.is_solution, is_solution), "clash": (judging.is_clash, is_clash)}
        for judge in judges[word]:
            self.assertTrue(judge(signs, equations, found), (signs, equations, word, found))
        told = best(signs, equations, form)
        self.assertEqual(told[0] == "clash", word == "clash")
        if told[0] == "clash":
            self.assertTrue(judging.is_clash(signs, equations, told[1]) and len(told) == 2)
        elif told[0] == "falls":
            self.assertTrue(judging.is_solution(signs, equations, told[1]) and len(told) == 3)
            bounds = tuple(tuple(1 if at == place + 1 else 0 for at in range(len(signs) + 1))
                           for place, sign in enumerate(signs) if sign)
            self.assertTrue(judging.is_fall(len(signs), bounds, form, told[2]))
            self.assertFalse(any(judging.at(equation, told[2]) for equation in equations))
        else:
            self.assertTrue(judging.is_best(signs, equations, form, told), (signs, equations, form, told))
            self.assertTrue(judging.is_lowest(told[1]))
        return word, told[0]


class DrawnRowsTest(Rows):
    def test_constants(self):
        self.assertEqual(module.MOST_SIGNED, 40)

    def test_small_rows(self):
        seen = {}
        for _ in range(3000):
            many, size = self.draw.randint(0, 4), self.draw.choice([1, 2, 6])
            lot = drawn_rows(self.draw, many, self.draw.randint(0, 7), size)
            found = self.look_at(many, lot, drawn_rows(self.draw, many, 1, size)[0])
            seen[found] = seen.get(found, 0) + 1
        self.assertEqual(len(seen), 4, seen)
        self.assertGreater(min(seen.values()), 50)

    def test_rows_through_one_point(self):
        for _ in range(300):
            many = self.draw.randint(1, 6)
            lot = through(self.draw, many, self.draw.randint(1, 20), 3)
            self.look_at(many, lot, through(self.draw, many, 1, 3)[0])
            self.look_at_bare(many, lot)

    def test_bare(self):
        kinds = {}
        for _ in range(1500):
            many = self.draw.randint(0, 3)
            lot = drawn_rows(self.draw, many, self.draw.randint(0, 6), self.draw.choice([1, 2, 4]))
            lot = (*lot, *[self.draw.choice(lot) for _ in range(self.draw.randint(0, 1)) if lot])
            self.look_at_bare(many, lot)
            some = tuple(index for index in range(len(lot)) if self.draw.random() < 0.5)
            expected = self.is_bare_here(many, lot, some)
            self.is_just(expected, is_bare(many, lot, some), (many, lot, some))
            kinds[expected] = kinds.get(expected, 0) + 1
        self.assertGreater(min(kinds.values()), 100)

    def test_equations(self):
        seen = {}
        for _ in range(3000):
            many = self.draw.randint(0, 4)
            signs = tuple(self.draw.random() < 0.6 for _ in range(many))
            lot = drawn_rows(self.draw, many, self.draw.randint(0, 4), self.draw.choice([1, 2, 5]))
            if self.draw.random() < 0.5:
                lot = (*lot, *[tuple(2 * number for number in row) for row in lot[:1]])
            found = self.look_at_equations(signs, lot, drawn_rows(self.draw, many, 1, 3)[0])
            seen[found] = seen.get(found, 0) + 1
        self.assertEqual(len(seen), 3)
        self.assertGreater(min(seen.values()), 100)

    def test_the_patient_way(self):
        # The rule that takes over where nothing is won ends, too, and finds the same numbers.
        for _ in range(150):
            many, size = self.draw.randint(1, 6), self.draw.choice([1, 3])
            lot = through(self.draw, many, self.draw.randint(1, 16), size)
            form = through(self.draw, many, 1, size)[0]
            signs = tuple(self.draw.random() < 0.7 for _ in range(many))
            found = self.look_at(many, lot, form), self.look_at_equations(signs, lot[:3], form)
            told = least(many, lot, form)[:2], best(signs, lot[:3], form)[:2]
            with mock.patch.object(simplex, "PATIENCE", 0):
                self.assertEqual((self.look_at(many, lot, form), self.look_at_equations(signs, lot[:3], form)), found)
                self.look_at_bare(many, lot)
                for ahead, now in zip(told, (least(many, lot, form)[:2], best(signs, lot[:3], form)[:2])):
                    if ahead[0] == "least":
                        self.assertEqual(now, ahead)

    def test_equal_calls(self):
        for _ in range(50):
            lot = drawn_rows(self.draw, 3, 5, 3)
            for call in (lambda: point_or_bar(3, lot), lambda: bare(3, lot), lambda: least(3, lot, (0, 1, 2, 3)),
                         lambda: follows(3, lot, (0, 1, 2, 3)), lambda: best((True,) * 3, lot, (0, 1, 2, 3))):
                self.assertEqual(call(), call())


class EdgesTest(Rows):
    def test_no_unknowns_and_no_rows(self):
        self.assertEqual(point_or_bar(0, ()), ("point", (1,)))
        self.assertEqual(bare(0, ()), ())
        self.assertEqual(self.look_at(0, (), (0,)), ("point", "follows", "least"))
        self.assertEqual(self.look_at(0, (), (-1,)), ("point", "escapes", "least"))
        self.assertEqual(self.look_at(0, ((-1,),), (-1,)), ("bar", "follows", "bar"))
        self.assertEqual(self.look_at(14, (), (0,) * 15), ("point", "follows", "least"))
        self.assertEqual(self.look_at(14, (), (0,) * 14 + (1,)), ("point", "escapes", "falls"))
        self.assertEqual(solved((), ()), ("solution", (1,)))
        self.assertEqual(solved((), ((0,),)), ("solution", (1,)))
        self.assertEqual(solved((), ((3,),))[0], "clash")
        self.assertEqual(best((), (), (7,))[:2], ("least", (7, 1)))

    def test_all_integers_0(self):
        for many in (0, 3, 14):
            zero = (0,) * (many + 1)
            self.assertEqual(self.look_at(many, (zero,) * 40, zero), ("point", "follows", "least"))
            self.assertEqual(bare(many, (zero,) * 40), ())
            self.assertEqual(self.look_at_equations((True,) * many, (zero,) * 40, zero), ("solution", "least"))

    def test_values_of_sums(self):
        rows = ((-3, 2), (1, -1))
        self.is_just(True, is_sum(1, rows, (-9, 5), (0, 1, 1, 2)))
        self.is_just(False, is_sum(1, rows, (-9, 5), (0, 0, 0, 0)))
        self.is_just(False, is_sum(1, rows, (-9, 5), (0, -1, -1, -2)))
        self.is_just(True, is_sum(1, rows, (-2, 2), (1, 1, 1, 0)))
        self.is_just(True, is_sum(1, rows, (-2, 2), (10 ** 300, 10 ** 300, 10 ** 300, 0)))
        self.is_just(True, is_sum(1, (), (4, 0), (1, 4)))
        self.is_just(True, is_sum(1, (), (0, 0), (1, 0)))
        self.is_just(False, is_sum(1, (), (0, 0), (0, 0)))
        self.is_just(False, is_sum(1, (), (0, 0), (0, 1)))

    def test_values_of_bars_and_points(self):
        rows = ((-3, 2), (1, -1))
        self.is_just(True, is_bar(1, rows, (10 ** 300, 2 * 10 ** 300)))
        self.is_just(False, is_bar(1, rows, (-1, -2)))
        self.is_just(False, is_bar(1, rows, (1, 1)))
        self.is_just(False, is_bar(1, rows, (0, 0)))
        self.is_just(False, is_bar(1, (), ()))
        self.is_just(True, is_bar(0, ((-1,), (3,)), (4, 1)))
        self.is_just(True, is_point(1, ((-3, 2),), (2, 3)))
        self.is_just(True, is_point(1, ((-3, 2),), (2 * 10 ** 300, 3 * 10 ** 300)))
        self.is_just(False, is_point(1, ((-3, 2),), (2, 2)))
        self.is_just(False, is_point(1, ((0, 1),), (0, 1)))
        self.is_just(False, is_point(1, (), (0, 1)))
        self.is_just(False, is_point(1, (), (-1, 1)))
        self.is_just(True, is_point(0, (), (5,)))

    def test_values_of_falls(self):
        rows = ((-3, 1, 0), (0, -1, 2))
        self.is_just(True, is_fall(2, rows, (0, 1, -1), (0, 10 ** 300, 2 * 10 ** 300)))
        self.is_just(False, is_fall(2, rows, (0, 1, -1), (1, 0, 1)))
        self.is_just(False, is_fall(2, rows, (0, 1, -1), (0, -1, 1)))
        self.is_just(False, is_fall(2, rows, (0, 1, -1), (0, 0, 0)))
        self.is_just(False, is_fall(2, rows, (-5, 1, -1), (0, 2, 1)))
        self.is_just(False, is_fall(0, (), (-1,), (0,)))
        self.is_just(False, is_fall(1, (), (0, 1), (1, -1)))
        self.is_just(True, is_fall(1, (), (0, 1), (0, -1)))

    def test_values_of_solutions_and_clashes(self):
        signs, forms = (True, False), ((-4, 1, 1), (0, 1, -1))
        self.is_just(True, is_solution(signs, forms, (10 ** 300, 2 * 10 ** 300, 2 * 10 ** 300)))
        self.is_just(False, is_solution(signs, forms, (1, 2, 1)))
        self.is_just(False, is_solution((True, False), ((0, 1, 1),), (1, -1, 1)))
        self.is_just(True, is_solution((True, False), ((0, 1, 1),), (1, 1, -1)))
        self.is_just(False, is_solution((), (), (0,)))
        self.is_just(True, is_clash((True, True), ((3, 1, 2),), (-10 ** 300,)))
        self.is_just(False, is_clash((True, True), ((3, 1, 2),), (1,)))
        self.is_just(False, is_clash((True, False), ((3, 1, 2),), (-1,)))
        self.is_just(False, is_clash((True,), ((-3, 1),), (1,)))
        self.is_just(True, is_clash((True,), ((-3, -1),), (1,)))
        self.is_just(False, is_clash((), (), ()))

    def test_what_is_not_true(self):
        # [2.6], one by one.
        half = ((-1, 2), (1, -2))
        self.is_just(True, is_point(1, half, (2, 1)))
        self.assertFalse(any(is_point(1, half, (1, number)) for number in range(-9, 10)))
        cross = ((0, 1, 0), (0, -1, 0), (0, 0, 1), (0, 0, -1), (0, 1, 1))
        self.is_just(True, is_bare(2, cross, (0, 1, 2, 3)))
        self.is_just(True, is_bare(2, cross, (1, 3, 4)))
        self.assertEqual(least(1, ((-1, 2),), (0, 1))[1], (1, 2))
        self.assertEqual(follows(2, cross[0:3:2], (0, 1, 1))[0], "follows")
        self.assertEqual([follows(2, (row,), (0, 1, 1))[0] for row in cross[0:3:2]], ["escapes"] * 2)

    def test_bare_values(self):
        rows = ((0, 1), (-1, 1), (1, 0), (-1, 1))
        for value, expected in [((1,), True), ((3,), True), ((0,), False), ((0, 1), False), ((1, 3), False), ((), False)]:
            self.is_just(expected, is_bare(1, rows, value), value)
        self.is_just(True, is_bare(1, ((2, 0),), ()))
        shut = ((-3, 1), (0, -1), (-1, 0), (1, -1))
        for value, expected in [((0, 1), True), ((2,), True), ((0, 3), True), ((0, 1, 3), False), ((1, 2), False), ((), False)]:
            self.is_just(expected, is_bare(1, shut, value), value)

    def test_long_rows(self):
        lots = [tuple((number, *row[1:]) for row in drawn_rows(self.draw, 14, 40, LONG)) for number in (LONG, 0, -LONG)]
        lots.append(drawn_rows(self.draw, 14, 40, LONG))
        for lot in lots:
            self.look_at(14, lot, drawn_rows(self.draw, 14, 1, LONG)[0])
        self.is_just(True, is_bare(14, lots[0], bare(14, lots[0])))
        self.is_just(True, is_bare(14, lots[2], bare(14, lots[2])))
        box = []
        for place in range(14):
            for side in (1, -1):
                box.append((self.draw.randint(1, LONG), *[side * LONG if at == place else 0 for at in range(14)]))
        self.assertEqual(self.look_at(14, tuple(box), drawn_rows(self.draw, 14, 1, LONG)[0])[2], "least")
        self.assertEqual(self.look_at_bare(14, tuple(box)), tuple(range(28)))

    def test_long_equations(self):
        for count in (40, 20):
            signs = tuple(self.draw.random() < 0.8 for _ in range(40))
            lot = drawn_rows(self.draw, 40, count, LONG)
            self.look_at_equations(signs, lot, drawn_rows(self.draw, 40, 1, LONG)[0])
        place = [self.draw.randint(0, 9) * self.draw.randint(0, 1) for _ in range(40)]
        lot = []
        for row in drawn_rows(self.draw, 40, 25, 10 ** 56):
            lot.append((-sum(number * part for number, part in zip(row[1:], place)), *row[1:]))
        found = self.look_at_equations((True,) * 40, tuple(lot), tuple(self.draw.randint(0, LONG) for _ in range(41)))
        self.assertEqual(found, ("solution", "least"))

    def test_steep_ways(self):
        # Rows that lead the steepest way through all corners of a box, one behind the other.
        many = 14
        rows = [tuple(1 if at == place else 0 for at in range(-1, many)) for place in range(many)]
        for place in range(many):
            inner = [-(2 ** (place - at + 1)) if at < place else (-1 if at == place else 0) for at in range(many)]
            rows.append((5 ** (place + 1), *inner))
        form = (0, *[-(2 ** (many - 1 - place)) for place in range(many)])
        self.assertEqual(least(many, tuple(rows), form)[1], (-(5 ** many), 1))


class WrongTest(Rows):
    ROWS = ((-3, 2), (1, -1))

    def judges(self):
        return [(is_bare, (0, 1)), (is_point, (1, 1)), (is_bar, (1, 2))]

    def test_many(self):
        for many in [-1, 15, *strange()]:
            for call in (point_or_bar, bare):
                self.refuses(InvalidNumber, call, many, None, keeps={"given": many})
            for call in (follows, least, is_bare, is_point, is_bar):
                self.refuses(InvalidNumber, call, many, None, None, keeps={"given": many})
            for call in (is_sum, is_fall):
                self.refuses(InvalidNumber, call, many, None, None, None, keeps={"given": many})

    def test_rows(self):
        wrong = [value for value in [*strange(), *near_lots(self.ROWS), ((1, 2),) * 41, ((1,),), ((1, 2, 3),)] if value != ()]
        for value in wrong:
            for call in (point_or_bar, bare):
                self.refuses(InvalidRows, call, 1, value)
            for call in (follows, least, is_bare, is_point, is_bar):
                self.refuses(InvalidRows, call, 1, value, None)
            for call in (is_sum, is_fall):
                self.refuses(InvalidRows, call, 1, value, None, None)
            for call in (solved,):
                self.refuses(InvalidRows, call, (True,), value)
            for call in (best, is_solution, is_clash):
                self.refuses(InvalidRows, call, (False,), value, None)

    def test_forms(self):
        for value in [*strange(), *near_misses((1, 2)), (1,), (1, 2, 3)]:
            for call in (follows, least):
                self.refuses(InvalidForm, call, 1, self.ROWS, value)
            for call in (is_sum, is_fall):
                self.refuses(InvalidForm, call, 1, self.ROWS, value, None)
            self.refuses(InvalidForm, best, (True,), self.ROWS, value)
        self.refuses(InvalidRows, best, (True,), None, None)

    def test_signs(self):
        for value in [*strange(), (1,), (0,), (True, None), [True], (True,) * 41, ((True,),), {0: True}]:
            if value != () and repr(value) != "(True,)":
                self.refuses(InvalidOperation, solved, value, None)
                for call in (best, is_solution, is_clash):
                    self.refuses(InvalidOperation, call, value, None, None)
        self.assertEqual(solved((True,) * 40, ())[0], "solution")

    def test_values(self):
        for judge, right in self.judges():
            rows = ((0, 1), (1, -1)) if judge is not is_bar else self.ROWS
            self.is_just(True, judge(1, rows, right))
            for value in [*strange(), *[value for value in near_misses(right) if value != (0,)]]:
                if not self.is_long(value):
                    self.is_just(False, judge(1, rows, value), (judge.__name__, repr(value)[:200]))
        for value in [*strange(), *near_misses((1, 1, 0, 1))]:
            if not self.is_long(value):
                self.is_just(False, is_sum(1, ((0, 1), (1, -1)), (2, -1), value), repr(value)[:200])
        for value in [*strange(), *near_misses((0, -1))]:
            if not self.is_long(value):
                self.is_just(False, is_fall(1, (), (0, 1), value), repr(value)[:200])
        for value in [*strange(), *near_misses((1, 4))]:
            if not self.is_long(value):
                self.is_just(False, is_solution((True,), ((-4, 1),), value), repr(value)[:200])
        for value in [*strange(), *near_misses((-1, 0))]:
            if not self.is_long(value):
                self.is_just(False, is_clash((True,), ((1, 1), (0, 0)), value), repr(value)[:200])

    def is_long(self, value):
        """Papers may have integers of any length: these are looked at elsewhere."""
        return isinstance(value, tuple) and bool(value) and all(type(part) is int for part in value)

    def test_long_papers_that_are_wrong(self):
        for number in [10 ** 60, 10 ** 219]:
            self.is_just(True, is_point(1, ((0, 1),), (1, number)))
            self.is_just(False, is_point(1, ((0, 1),), (1, -number)))
            self.is_just(False, is_bar(1, self.ROWS, (number, number)))
            self.is_just(False, is_sum(1, self.ROWS, (1, 1), (1, number, 0, 0)))
            self.is_just(False, is_bare(1, self.ROWS, (0, number)))

    def test_two_wrong_arguments(self):
        self.refuses(InvalidNumber, follows, True, None, None, keeps={"given": True})
        self.refuses(InvalidRows, follows, 1, ((1,),), (1,))
        self.refuses(InvalidForm, is_sum, 1, ((1, 2),), (1,), None)
        self.refuses(InvalidOperation, best, None, None, None)

    def test_one_more(self):
        self.assertEqual(point_or_bar(1, ((0, 1),) * 40)[0], "point")
        self.refuses(InvalidRows, point_or_bar, 1, ((0, 1),) * 41)
        self.assertEqual(point_or_bar(1, ((LONG, -LONG),))[0], "point")
        self.refuses(InvalidRows, point_or_bar, 1, ((LONG + 1, -LONG),))
        self.refuses(InvalidRows, point_or_bar, 1, ((LONG, -LONG - 1),))
        self.refuses(InvalidForm, least, 1, (), (LONG + 1, 0))
        self.assertEqual(solved((True,), ((0, 1),) * 40)[0], "solution")
        self.refuses(InvalidRows, solved, (True,), ((0, 1),) * 41)
