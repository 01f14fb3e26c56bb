import random
import unittest

from fallorflow.bounds import polys as module
from fallorflow.bounds.polys import does_cover, is_poly, poly_at, poly_join, poly_product, poly_sum
from fallorflow.errors import InvalidForm, InvalidNumber, InvalidOperation, TooMany
from tests.values import Refusing, near_misses, strange

LONG = 10 ** 400
MAKING = (poly_sum, poly_product, poly_join)


def poly(draw, many, most=5, high=3):
    return {tuple(draw.randint(0, high) for _ in range(many)): draw.choice([1, 2, 3, LONG]) for _ in range(draw.randint(0, most))}


def at(told, sizes):
    total = 0
    for exponents, number in told.items():
        for size, exponent in zip(sizes, exponents):
            number *= size ** exponent
        total += number
    return total


class PolysTest(Refusing, unittest.TestCase):
    def setUp(self):
        self.draw = random.Random(121)

    def test_constants(self):
        self.assertEqual((module.MAX_TERMS, module.MAX_EXPONENT), (300, 40))

    def test_drawn(self):
        for _ in range(400):
            many = self.draw.choice([0, 1, 2, 2, 3, 14])
            one, other = poly(self.draw, many), poly(self.draw, many)
            copies = dict(one), dict(other)
            found = {call: call(many, one, other) for call in MAKING}
            for call, told in found.items():
                self.assertEqual(list(told), sorted(told))
                self.is_just(True, is_poly(many, told))
                self.assertEqual(told, call(many, other, one))
                self.assertIsNot(told, one)
                self.assertIsNot(told, other)
            self.assertEqual((one, other), copies)
            self.assertEqual(found[poly_join], {key: max(one.get(key, 0), other.get(key, 0)) for key in {*one, *other}})
            for sizes in [(0,) * many, (1,) * many, tuple(self.draw.randint(0, 9) for _ in range(many))]:
                mine, yours = at(one, sizes), at(other, sizes)
                self.assertEqual(poly_at(many, one, sizes), mine)
                self.assertEqual(poly_at(many, found[poly_sum], sizes), mine + yours)
                self.assertEqual(poly_at(many, found[poly_product], sizes), mine * yours)
                self.assertGreaterEqual(poly_at(many, found[poly_join], sizes), max(mine, yours))
                self.assertLessEqual(poly_at(many, found[poly_join], sizes), mine + yours)
            self.is_just(all(one.get(key, 0) >= other[key] for key in other), does_cover(many, one, other))
            self.is_just(True, does_cover(many, found[poly_join], one))
            self.is_just(True, does_cover(many, found[poly_sum], other))

    def test_nothing(self):
        self.assertEqual([call(2, {}, {(1, 0): 2}) for call in MAKING], [{(1, 0): 2}, {}, {(1, 0): 2}])
        self.assertEqual([call(0, {}, {}) for call in MAKING], [{}, {}, {}])
        self.assertEqual([call(0, {(): 2}, {(): 3}) for call in MAKING], [{(): 5}, {(): 6}, {(): 3}])
        self.assertEqual([poly_at(0, {}, ()), poly_at(3, {}, (1, 2, 3)), poly_at(0, {(): 7}, ()), poly_at(1, {(0,): 7}, (0,))], [0, 0, 7, 7])
        self.assertEqual([does_cover(1, {}, {}), does_cover(1, {(0,): 1}, {}), does_cover(1, {}, {(0,): 1})], [True, True, False])
        self.assertEqual([does_cover(1, {(1,): 3}, {(1,): number}) for number in (2, 3, 4)], [True, True, False])

    def test_is_poly(self):
        for value in [{}, {(0, 0): 1}, {(40, 0): LONG}, {(1, 2): 1, (2, 1): 3}]:
            self.is_just(True, is_poly(2, value))
        for value in [*strange(), {(0, 0): 0}, {(0, 0): -1}, {(0, 0): True}, {(0, 0): "1"}, {(0, 0): None}, {(0,): 1}, {(0, 0, 0): 1}, {(41, 0): 1}, {(-1, 0): 1},
                      {(True, 0): 1}, {(False, 0): 1}, {("0", 0): 1}, {((0,), 0): 1}, {(None, 0): 1}, {0: 1}, {"ab": 1}, {None: 1}, {(): 1}, ((0, 0), 1), [((0, 0), 1)],
                      {(0, 0): 1, (1,): 1}, {(0, 0): 1, (1, 1): 0}, {(10 ** 70, 0): 1}, {(0, 0): (1,)}]:
            self.is_just(value == {} and isinstance(value, dict), is_poly(2, value), repr(value)[:200])
        self.is_just(True, is_poly(0, {(): 5}))
        self.is_just(True, is_poly(14, {(0,) * 14: 5}))

    def test_most_members(self):
        full = {(one, other): 1 for one in range(20) for other in range(15)}
        self.assertEqual(len(full), 300)
        self.is_just(True, is_poly(2, full))
        more = {**full, (20, 0): 1}
        self.is_just(False, is_poly(2, more))
        self.assertEqual(poly_sum(2, full, full), {key: 2 for key in sorted(full)})
        self.assertEqual(poly_join(2, full, full), full)
        for call in (poly_sum, poly_join):
            self.refuses(TooMany, call, 2, full, {(20, 0): 1}, keeps={"limit": 300})
            self.assertEqual(len(call(2, full, {(19, 14): 9})), 300)
        row = {(at,): 1 for at in range(41)}
        self.refuses(TooMany, poly_product, 2, full, {(0, 0): 1, (20, 0): 1}, keeps={"limit": 300})
        self.assertEqual(len(poly_product(2, full, {(20, 0): 1})), 300)
        # Three hundred by one variable, and 301 by another exponent.
        fifteen = {(one, 0, 0): 1 for one in range(15)}
        twenty = {(0, two, 0): 1 for two in range(20)}
        self.assertEqual(len(poly_product(3, fifteen, twenty)), 300)
        self.refuses(TooMany, poly_product, 3, {**fifteen, (0, 0, 1): 1}, twenty, keeps={"limit": 300})
        self.refuses(InvalidForm, poly_sum, 2, more, None)
        self.refuses(InvalidForm, poly_sum, 2, {}, more)
        self.assertEqual(poly_at(1, row, (1,)), 41)

    def test_most_exponent(self):
        self.assertEqual(poly_product(1, {(20,): 2}, {(20,): 3}), {(40,): 6})
        self.refuses(TooMany, poly_product, 1, {(20,): 2}, {(21,): 3}, keeps={"limit": 300})
        self.refuses(TooMany, poly_product, 2, {(0, 40): 2, (0, 0): 1}, {(1, 0): 3, (0, 1): 1}, keeps={"limit": 300})
        self.assertEqual(poly_product(2, {(0, 40): 2}, {(40, 0): 3}), {(40, 40): 6})
        self.assertEqual(poly_product(1, {}, {(40,): 3}), {})
        self.refuses(InvalidForm, poly_product, 1, {(41,): 1}, {})

    def test_errors(self):
        for value in strange():
            for call in (*MAKING, does_cover):
                self.refuses(InvalidNumber, call, value, None, None, keeps={"given": value})
                if value != {}:
                    self.refuses(InvalidForm, call, 1, value, None)
                    self.refuses(InvalidForm, call, 1, {(1,): 1}, value)
            self.refuses(InvalidNumber, is_poly, value, {}, keeps={"given": value})
            self.refuses(InvalidNumber, poly_at, value, None, None, keeps={"given": value})
            if value != {}:
                self.refuses(InvalidForm, poly_at, 1, value, None)
            self.refuses(InvalidOperation, poly_at, 1, {(1,): 1}, value)
        for number in (-1, 15):
            for call in (*MAKING, does_cover, poly_at):
                self.refuses(InvalidNumber, call, number, {}, {}, keeps={"given": number})
            self.refuses(InvalidNumber, is_poly, number, {}, keeps={"given": number})
        for sizes in near_misses((3, 4)):
            self.refuses(InvalidOperation, poly_at, 2, {(1, 1): 1}, sizes)
        for sizes in [(-1, 4), (3, -1)]:
            self.refuses(InvalidOperation, poly_at, 2, {(1, 1): 1}, sizes)
        self.assertEqual(poly_at(2, {(1, 1): 1}, (10 ** 60 - 1, 2)), 2 * 10 ** 60 - 2)

    def test_what_is_not_true(self):
        # [12.7]: a poly that covers another one, with as many members.
        self.is_just(True, does_cover(1, {(1,): 2}, {(1,): 1}))
        self.assertEqual(poly_at(1, {(2,): 1}, (0,)), poly_at(1, {}, (0,)))


if __name__ == "__main__":
    unittest.main()
