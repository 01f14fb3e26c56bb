"""Answers to equations and rows: a solution of least cost with numbers that show it, or a clash.

Boards find them. What a rough board tells is which unknowns are 0 in the end
and which forms are: this makes it a question of equations alone, the answer of
which is looked at from all sides. If it does not hold, more digits are kept,
and at last all of them.
"""
from fallorflow.base.plain import reduced
from fallorflow.lots.boards import ONE, Board
from fallorflow.lots.tables import FREE, SIGNED, ZERO

# How many binary digits boards keep, one behind the other.
KEPT = (1000, 4000)


class Answer:
    """A clash, or None; a solution (w, u1, ..), and the pair (weight, numbers) that shows its cost to be the least."""

    def __init__(self, clash, point, least):
        self.found_clash = clash
        self.found_point = point
        self.found_least = least


def answered(kinds, forms, form_kinds, costs):
    """The answer to what is asked of unknowns, all being told as for boards."""
    for kept in (*KEPT, None):
        board = Board(kinds, forms, form_kinds, costs, kept)
        inner = board.settle()
        if not board.is_rough:
            break
        found = Proof(board, kinds, forms, form_kinds, costs).answer(inner)
        if found is not None:
            return found
    if inner is not None:
        return Answer(board.clash(inner), None, None)
    return Answer(None, board.point(), board.least() if costs else None)


class Proof:
    """What a rough board tells, to be proven: which unknowns can be other than 0, and which forms are 0."""

    def __init__(self, board, kinds, forms, form_kinds, costs):
        self.kinds = kinds
        self.forms = forms
        self.form_kinds = form_kinds
        self.costs = costs
        many = len(kinds)
        frozen = [variable for variable, _, _ in board.frozen]
        self.inner = sorted([*frozen, *[variable for variable in board.rows if variable < many]])
        self.outer = [at for at in range(len(forms)) if many + at not in board.rows]

    def answer(self, variable):
        """The answer, proven, or None; the variable is that of a row that nothing can mend, if there is one."""
        if variable is not None:
            clash = self.clash(variable)
            return None if clash is None else Answer(clash, None, None)
        point = self.point()
        least = self.least() if self.costs else None
        if point is None or (self.costs and least is None):
            return None
        return Answer(None, point, least)

    def point(self):
        """The solution at which the outer forms are 0, or None."""
        rows = [self.over_inner(self.forms[at]) for at in self.outer]
        found = solution(len(self.inner), rows)
        if found is None:
            return None
        point = [found[0], *[0 for _ in self.kinds]]
        for variable, number in zip(self.inner, found[1:]):
            point[variable + 1] = number
        if any([kind == SIGNED and number < 0 for kind, number in zip(self.kinds, point[1:])]):
            return None
        for form, kind in zip(self.forms, self.form_kinds):
            total = sum([number * point[key + 1] for key, number in form.items()])
            if total < 0 or (total > 0 and kind == ZERO):
                return None
        return point

    def over_inner(self, cells):
        """A form over the inner unknowns alone, numbered anew."""
        found = {at: cells[variable] for at, variable in enumerate(self.inner) if variable in cells}
        if ONE in cells:
            found[ONE] = cells[ONE]
        return found

    def numbers_for(self, target):
        """(weight, numbers): the forms, each so many times, have for the inner unknowns the target so many times."""
        columns = [{} for _ in self.inner]
        places = {variable: at for at, variable in enumerate(self.inner)}
        for number, at in enumerate(self.outer):
            for key, size in self.forms[at].items():
                if key in places:
                    columns[places[key]][number] = size
        for variable, column in zip(self.inner, columns):
            if target.get(variable, 0) != 0:
                column[ONE] = -target[variable]
        found = solution(len(self.outer), columns)
        if found is None:
            return None
        numbers = [0 for _ in self.forms]
        for at, number in zip(self.outer, found[1:]):
            numbers[at] = number
        return (found[0], numbers)

    def clash(self, variable):
        """How often each form comes in a sum that is below 0 because of one variable, or None."""
        many = len(self.kinds)
        own = {} if variable < many else self.forms[variable - many]
        found = self.numbers_for({variable: -1} if variable < many else {key: -size for key, size in own.items()})
        if found is None:
            return None
        weight, numbers = found
        if variable >= many:
            numbers[variable - many] = weight
        total = self.total(numbers)
        # A form that is to be 0 clashes by a number above 0, too.
        if variable >= many and self.form_kinds[variable - many] == ZERO and total.get(ONE, 0) > 0:
            numbers = [-number for number in numbers]
            total = self.total(numbers)
        if total.get(ONE, 0) >= 0 or not self.is_fit(numbers, {key: -number for key, number in total.items()}):
            return None
        return list(reduced(numbers))

    def least(self):
        """(weight, numbers) that show the costs to be the least where the outer forms are 0, or None."""
        found = self.numbers_for(self.costs)
        if found is None:
            return None
        weight, numbers = found
        rest = {key: -number for key, number in self.total(numbers).items()}
        for key, cost in self.costs.items():
            rest[key] = rest.get(key, 0) + weight * cost
        return found if self.is_fit(numbers, rest) else None

    def total(self, numbers):
        """The sum of all forms, each so many times."""
        found = {}
        for form, number in zip(self.forms, numbers):
            if number != 0:
                for key, size in form.items():
                    found[key] = found.get(key, 0) + number * size
        return found

    def is_fit(self, numbers, rest):
        """Whether no form that is to be at least 0 comes less than 0 times, and the rest has no unknown but signed
        ones, from 0 times on."""
        if any([kind == SIGNED and number < 0 for kind, number in zip(self.form_kinds, numbers)]):
            return False
        for key, number in rest.items():
            if key != ONE and number != 0 and (self.kinds[key] == FREE or number < 0):
                return False
        return True


def solution(many, rows):
    """The vector (w, u1, ..) of unknowns at which rows of cells are 0, or None."""
    board = Board([FREE for _ in range(many)], rows, [ZERO for _ in rows], {}, None)
    return board.point() if board.settle() is None else None
