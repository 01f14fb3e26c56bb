import random
import unittest

from fallorflow.lots import proofs
from fallorflow.lots.answers import least_of, equations_table
from fallorflow.lots.boards import ONE, Board
from fallorflow.lots.proofs import answered, solution
from fallorflow.lots.simplex import opened
from fallorflow.lots.tables import FREE, SIGNED, ZERO

LONG = 10 ** 60 - 1


def form(draw, many, size, share):
    found = {key: draw.randint(-size, size) for key in (*range(many), ONE) if draw.random() < share}
    return {key: number for key, number in found.items() if number != 0}


def value(cells, point):
    return sum(number * point[key + 1] for key, number in cells.items())


class BoardsTest(unittest.TestCase):
    def setUp(self):
        self.draw = random.Random(71)
        self.kept = proofs.KEPT
        self.seen = {"clash": 0, "point": 0, "least": 0}

    def tearDown(self):
        proofs.KEPT = self.kept

    def drawn(self, size, most=7):
        many, asked = self.draw.randint(1, most), self.draw.randint(1, most)
        share = self.draw.choice([0.3, 0.6, 1])
        kinds = [self.draw.choice([FREE, SIGNED, SIGNED]) for _ in range(many)]
        forms = [form(self.draw, many, size, share) for _ in range(asked)]
        form_kinds = [self.draw.choice([ZERO, SIGNED]) for _ in range(asked)]
        costs = {}
        if self.draw.random() < 0.6:
            costs = {at: self.draw.randint(1, 5) for at in range(many) if kinds[at] == SIGNED and self.draw.random() < 0.8}
        return kinds, forms, form_kinds, costs

    def told_by_a_table(self, kinds, forms, form_kinds, costs):
        """The least cost by the tables of stage 2, None for a clash; what is to be at least 0 has an unknown more."""
        further = [at for at, kind in enumerate(form_kinds) if kind == SIGNED]
        rows = []
        for at, told in enumerate(forms):
            rest = [-1 if other == at else 0 for other in further]
            rows.append((told.get(ONE, 0), *[told.get(key, 0) for key in range(len(kinds))], *rest))
        table = equations_table([kind == SIGNED for kind in kinds] + [True] * len(further), rows)
        if opened(table) is not None:
            return None
        return least_of(table, (0, *[costs.get(key, 0) for key in range(len(kinds))], *[0 for _ in further]))[1]

    def look_at(self, asked):
        kinds, forms, form_kinds, costs = asked
        answer = answered(*asked)
        expected = self.told_by_a_table(*asked)
        if answer.found_clash is not None:
            self.assertIsNone(expected)
            self.look_at_clash(asked, answer.found_clash)
            return
        self.assertIsNotNone(expected)
        point = answer.found_point
        self.assertTrue(len(point) == len(kinds) + 1 and point[0] >= 1)
        self.assertTrue(all(kind == FREE or number >= 0 for kind, number in zip(kinds, point[1:])))
        for told, kind in zip(forms, form_kinds):
            self.assertTrue(value(told, point) == 0 or (kind == SIGNED and value(told, point) > 0))
        self.seen["point"] += 1
        if costs:
            top, bottom = expected
            self.assertEqual(value(costs, point) * bottom, top * point[0])
            self.look_at_least(asked, expected, *answer.found_least)

    def rest(self, forms, numbers):
        total = {}
        for told, number in zip(forms, numbers):
            for key, size in told.items():
                total[key] = total.get(key, 0) + number * size
        return total

    def look_at_clash(self, asked, numbers):
        kinds, forms, form_kinds, _ = asked
        self.assertTrue(all(kind == ZERO or number >= 0 for kind, number in zip(form_kinds, numbers)))
        total = self.rest(forms, numbers)
        self.assertLess(total.pop(ONE, 0), 0)
        self.assertTrue(all(number == 0 or (kinds[key] == SIGNED and number < 0) for key, number in total.items()))
        self.seen["clash"] += 1

    def look_at_least(self, asked, fraction, weight, numbers):
        kinds, forms, form_kinds, costs = asked
        self.assertGreaterEqual(weight, 1)
        self.assertTrue(all(kind == ZERO or number >= 0 for kind, number in zip(form_kinds, numbers)))
        total = self.rest(forms, numbers)
        # So many times the costs, less their least value, is the sum of the forms and of signed unknowns.
        self.assertEqual(-total.pop(ONE, 0) * fraction[1], weight * fraction[0])
        for key in range(len(kinds)):
            left = weight * costs.get(key, 0) - total.get(key, 0)
            self.assertTrue(left == 0 or (kinds[key] == SIGNED and left > 0))
        self.seen["least"] += 1

    def test_drawn(self):
        for _ in range(500):
            self.look_at(self.drawn(self.draw.choice([1, 3, 1000000])))
        self.assertGreater(min(self.seen.values()), 50)

    def test_rough_numbers(self):
        # So few digits are kept that many proofs fail, and the next ones are tried.
        for kept in [(3,), (5, 8), (2, 4, 6), (40,)]:
            proofs.KEPT = kept
            for _ in range(200):
                self.look_at(self.drawn(self.draw.choice([1, 9, 1000000]), 9))
        self.assertGreater(min(self.seen.values()), 50)

    def test_long_numbers(self):
        for _ in range(25):
            self.look_at(self.drawn(LONG, 14))

    def test_rough_boards_are_proven(self):
        rough = proven = 0
        for _ in range(60):
            asked = self.drawn(LONG, 14)
            board = Board(*asked, 1000)
            variable = board.settle()
            if board.is_rough:
                rough += 1
                proven += proofs.Proof(board, *asked).answer(variable) is not None
            else:
                again = Board(*asked, None)
                self.assertEqual(again.settle(), variable)
                if variable is None:
                    self.assertEqual(board.point(), again.point())
        self.assertGreater(rough, 10)
        self.assertEqual(proven, rough)

    def test_solution(self):
        self.assertEqual(solution(2, [{0: 2, 1: 1, ONE: -4}, {0: 1, 1: -1, ONE: 1}]), [1, 1, 2])
        self.assertIsNone(solution(1, [{0: 2, ONE: -4}, {0: 1}]))
        self.assertEqual(solution(0, []), [1])


if __name__ == "__main__":
    unittest.main()
