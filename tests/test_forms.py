import random
import unittest
from fractions import Fraction

from fallorflow.base import forms
from fallorflow.base.forms import are_rows, form_text, is_form, lowest, moved, opposite, plus, put_in, times, value_at
from fallorflow.errors import InvalidForm, InvalidNumber, InvalidOperation
from tests.values import Refusing, near_lots, near_misses, odd_parts, strange

LONG = 10 ** 60 - 1
FULL = (1, 2, 3) * 5
NO_FORMS = [value for value in near_misses(FULL) if value != FULL[:-1]]
WIDE = (3, *[LONG if at % 2 else -LONG for at in range(14)])


def drawn(draw, many, size=9):
    return tuple(draw.randint(-size, size) for _ in range(many + 1))


def fraction_at(form, places):
    return form[0] + sum(number * place for number, place in zip(form[1:], places))


class FormsTest(Refusing, unittest.TestCase):
    def setUp(self):
        self.draw = random.Random(11)

    def test_constants(self):
        self.assertEqual((forms.MOST_UNKNOWNS, forms.MOST_ROWS), (14, 40))

    def test_is_form(self):
        self.is_just(True, is_form(0, (4,)))
        self.is_just(True, is_form(2, (0, 0, 0)))
        self.is_just(True, is_form(14, WIDE))
        self.is_just(False, is_form(13, WIDE))
        self.is_just(False, is_form(2, (0, 0)))
        self.is_just(False, is_form(2, (1, True, 0)))
        for value in [*strange(), *near_misses((1, 2, -3))]:
            self.is_just(False, is_form(2, value), repr(value)[:200])

    def test_are_rows(self):
        row = (1, 2)
        self.is_just(True, are_rows(1, ()))
        self.is_just(True, are_rows(1, (row,) * 40))
        self.is_just(False, are_rows(1, (row,) * 41))
        self.is_just(True, are_rows(14, (WIDE,) * 40))
        self.is_just(False, are_rows(2, (row,)))
        for value in [*strange(), *near_lots((row, (0, 0)))]:
            if value != ():
                self.is_just(False, are_rows(1, value), repr(value)[:200])

    def test_many(self):
        for judge in (is_form, are_rows):
            for many in [-1, 15, 10 ** 60, *strange()]:
                self.refuses(InvalidNumber, judge, many, None, keeps={"given": many})

    def test_value_at(self):
        self.assertEqual(value_at((5,), (3,)), 15)
        self.assertEqual(value_at((5,), (0,)), 0)
        self.assertEqual(value_at((5, 2), (0, 0)), 0)
        self.assertEqual(value_at((1, 1), (10 ** 300, -10 ** 219)), 10 ** 300 - 10 ** 219)
        for _ in range(200):
            many = self.draw.randint(0, 14)
            form, vector = drawn(self.draw, many), drawn(self.draw, many)
            vector = (abs(vector[0]), *vector[1:])
            found = value_at(form, vector)
            if vector[0]:
                places = [Fraction(number, vector[0]) for number in vector[1:]]
                self.assertEqual(found, vector[0] * fraction_at(form, places))
            else:
                self.assertEqual(found, fraction_at(form, vector[1:]) - form[0])
            self.assertEqual(found, value_at(form, vector))

    def test_value_at_errors(self):
        for value in [*strange(), *NO_FORMS, (1,) * 16]:
            self.refuses(InvalidForm, value_at, value, (1, 2))
            self.refuses(InvalidForm, value_at, value, None)
        for vector in [(-1, 2), (1,), (1, 2, 3), [1, 2], (1, True), (True, 1), (1, None), None, (1, "2"), {1: 2}]:
            self.refuses(InvalidOperation, value_at, (3, 4), vector)

    def test_lowest(self):
        self.assertEqual(lowest((0, 0, 0)), (0, 0, 0))
        self.assertEqual(lowest((0,)), (0,))
        self.assertEqual(lowest((7,)), (1,))
        self.assertEqual(lowest((0, -4)), (0, -1))
        self.assertEqual(lowest((6, 0, -9)), (2, 0, -3))
        self.assertEqual(lowest((10 ** 300, 10 ** 250)), (10 ** 50, 1))
        self.assertEqual(lowest((2,) * 15), (1,) * 15)
        for value in [(), (1,) * 16, (-1, 2), (True, 2), (1, None), [1, 2], None, "a", (1, (2,)), 10 ** 70, {1: 2}, True]:
            self.refuses(InvalidOperation, lowest, value)

    def test_plus_and_times(self):
        self.assertEqual(plus((LONG, 1), (LONG, -1)), (2 * LONG, 0))
        self.assertEqual(times(LONG, (LONG, 0)), (LONG * LONG, 0))
        self.assertEqual(times(0, (4, 5)), (0, 0))
        for _ in range(100):
            many = self.draw.randint(0, 14)
            one, other = drawn(self.draw, many), drawn(self.draw, many)
            self.assertEqual(plus(one, other), tuple(mine + yours for mine, yours in zip(one, other)))
            self.assertEqual(times(-3, one), tuple(-3 * mine for mine in one))

    def test_plus_errors(self):
        for value in [*strange(), *NO_FORMS, (1,) * 16]:
            self.refuses(InvalidForm, plus, value, None)
            self.refuses(InvalidForm, plus, (1, 2), value)
            self.refuses(InvalidForm, opposite, value)
            self.refuses(InvalidForm, times, 2, value)
        self.refuses(InvalidOperation, plus, (1, 2), (1, 2, 3))
        self.refuses(InvalidForm, plus, (1, 2), (1, 2, None))
        for value in odd_parts():
            self.refuses(InvalidNumber, times, value, None, keeps={"given": value})

    def test_opposite(self):
        self.assertEqual(opposite((LONG,)), (-LONG - 1,))
        for _ in range(200):
            many = self.draw.randint(0, 4)
            form, places = drawn(self.draw, many), drawn(self.draw, many)[1:]
            signs = [fraction_at(told, places) >= 0 for told in (form, opposite(form))]
            self.assertEqual(sorted(signs), [False, True])
        self.assertTrue(fraction_at((0, 2), [Fraction(-1, 4)]) < 0 and fraction_at(opposite((0, 2)), [Fraction(-1, 4)]) < 0)
        self.assertNotEqual(opposite(plus((1, 2), (3, 4))), plus(opposite((1, 2)), opposite((3, 4))))

    def test_put_in(self):
        self.assertEqual(put_in((4,), (), 3), (4, 0, 0, 0))
        self.assertEqual(put_in((4, 2), ((5,),), 0), (14,))
        for _ in range(200):
            first, second, third = [self.draw.randint(0, 5) for _ in range(3)]
            form = drawn(self.draw, first)
            inner = tuple(drawn(self.draw, second) for _ in range(first))
            deep = tuple(drawn(self.draw, third) for _ in range(second))
            found = put_in(form, inner, second)
            vector = (abs(self.draw.randint(0, 5)), *drawn(self.draw, second)[1:])
            self.assertEqual(value_at(found, vector), value_at(form, (vector[0], *[value_at(told, vector) for told in inner])))
            at_once = tuple(put_in(told, deep, third) for told in inner)
            self.assertEqual(put_in(found, deep, third), put_in(form, at_once, third))

    def test_put_in_errors(self):
        self.refuses(InvalidForm, put_in, (), None, None)
        for many in [-1, 15, *odd_parts()]:
            self.refuses(InvalidNumber, put_in, (1, 2), None, many, keeps={"given": many})
            self.refuses(InvalidNumber, moved, (1, 2), None, many, keeps={"given": many})
        for value in [*strange(), *near_lots(((1, 2), (0, 3))), ((1, 2),), ((1, 2),) * 3, ((1, 2), (1, 2, 3))]:
            self.refuses(InvalidOperation, put_in, (1, 2, 3), value, 1)

    def test_moved(self):
        self.assertEqual(moved((7,), (), 0), (7,))
        self.assertEqual(moved((7, 1, 2), (1, 0), 2), (7, 2, 1))
        self.assertEqual(moved((7, 1), (13,), 14), (7, *[0] * 13, 1))
        self.refuses(InvalidForm, moved, None, None, None)
        for value in [*strange(), *near_misses((1, 0)), (1, 1), (0, 3), (-1, 0), (0,), (0, 1, 2)]:
            self.refuses(InvalidOperation, moved, (7, 1, 2), value, 3)

    def test_form_text(self):
        names = ("x", "n", "abcdefgh")
        for form, text in [
            ((0, 1, -1, 2), "x - n + 2 abcdefgh"), ((0, 0, -1, 0), "-n"), ((5, 0, 0, 0), "5"), ((-5, 0, 0, -3), "-3 abcdefgh - 5"),
            ((1, -1, 0, 1), "-x + abcdefgh + 1"), ((-1, 0, 0, 0), "-1"), ((0, -7, 1, -1), "-7 x + n - abcdefgh"),
            ((LONG, 0, -LONG, 0), f"-{LONG} n + {LONG}"),
        ]:
            self.assertEqual(form_text(form, names), text)
        seen = {}
        for first in range(-3, 4):
            for second in range(-3, 4):
                for third in range(-3, 4):
                    seen[form_text((first, second, third), ("a", "b"))] = True
        self.assertEqual(len(seen), 343)

    def test_form_text_errors(self):
        self.refuses(InvalidForm, form_text, (1, 2.5), None)
        wrong = [("x",), ("x", "x"), ("x", ""), ("x", "abcdefghi"), ("x", "A"), ("x", "a1"), ("x", "a b"), ("x", None),
                 ["x", "n"], "xn", ("x", 1), ("x", "n", "m"), ("x", ("n",)), ("x", "n\n"), ("x", "x" * 40000)]
        for names in [*wrong, *strange()]:
            self.refuses(InvalidOperation, form_text, (1, 2, 3), names)
