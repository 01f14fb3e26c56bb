"""Boards: equations and rows over many unknowns few of which stand in each one.

Each row tells an inner variable by outer ones, whose numbers other than 0 alone
are kept, over a bottom of its own. Outer variables are 0 at what the board
stands for. The way to a solution begins with all unknowns at 0 and mends one
row after the other, so what asks for nothing is never touched. Costs that are
never below 0 see to it that the way ends, and in the end to the least cost.

Where numbers become longer than a board may keep, their last digits are cut
off: the way goes on roughly, and what comes of it has to be proven.
"""
from math import gcd, lcm

from fallorflow.base.plain import reduced
from fallorflow.lots.tables import FREE, SIGNED, ZERO

# What stands in the place of a variable for the number without any, and of one for all costs.
ONE = -1
COST = -2
PATIENCE = 30


class Board:
    """Unknowns outside, forms inside, till some change places: a changing class.

    Unknowns are free or signed; forms are to be at least 0 (signed), or just 0.
    Forms and costs are dicts from unknowns, and ONE, to integers. The costs of
    signed unknowns are at least 0, others have none. Of numbers so many binary
    digits are kept, None for all.
    """

    def __init__(self, kinds, forms, form_kinds, costs, kept):
        self.many = len(kinds)
        self.kinds = [*kinds, *form_kinds]
        self.kept = kept
        self.is_rough = False
        self.rows = {}
        for at, form in enumerate(forms):
            self.rows[self.many + at] = _reduced(1, {key: number for key, number in form.items() if number != 0})
        # Among equal costs some further ones tell, which are hardly ever equal.
        others = {at: 97 + at * 61 % 89 for at in range(self.many) if kinds[at] == SIGNED}
        self.goals = [_reduced(1, {key: number for key, number in costs.items() if number != 0}), (1, others)]
        self.frozen = []
        self.trail = []

    def settle(self):
        """Lead the board to a solution of least cost; None, or the inner variable of a row that nothing can mend."""
        idle = 0
        inner = self.broken(idle)
        while inner is not None:
            outer = self.entering(inner)
            if outer is None:
                return inner
            if self.kinds[outer] == SIGNED:
                idle = 0 if any([goal[1].get(outer, 0) for goal in self.goals]) else idle + 1
            self.exchange(inner, outer)
            inner = self.broken(idle)
            # What is rough may go round; whoever asks for a proof finds none then.
            if self.is_rough and len(self.trail) > 20 * len(self.kinds):
                return inner
        return None

    def broken(self, idle):
        """The inner variable of a row that does not hold, the least one behind too many idle exchanges, or None."""
        best = None
        for variable, (_, cells) in self.rows.items():
            number = cells.get(ONE, 0)
            if number < 0 or (number > 0 and self.kinds[variable] == ZERO):
                key = (len(cells) if idle < PATIENCE else 0, variable)
                if best is None or key < best:
                    best = key
        return None if best is None else best[1]

    def entering(self, inner):
        """The outer variable that can mend a row at the least cost, or None."""
        cells = self.rows[inner][1]
        free = [key for key in cells if key != ONE and self.kinds[key] == FREE]
        if free:
            return self.rarest(free)
        side = 1 if cells[ONE] < 0 else -1
        best = None
        for key, number in cells.items():
            if key != ONE and self.kinds[key] == SIGNED and side * number > 0:
                if best is None or self.is_cheaper(cells, key, best):
                    best = key
        return best

    def rarest(self, keys):
        """The one of some outer variables that stands in the fewest rows."""
        if len(keys) == 1:
            return keys[0]
        counts = [(sum([1 for _, cells in self.rows.values() if key in cells]), key) for key in keys]
        return min(counts)[1]

    def is_cheaper(self, cells, one, other):
        """Whether one outer variable mends a row at less cost than another one."""
        mine, yours = abs(cells[one]), abs(cells[other])
        for _, costs in self.goals:
            left, right = costs.get(one, 0) * yours, costs.get(other, 0) * mine
            if left != right:
                return left < right
        return one < other

    def exchange(self, inner, outer):
        """Let an inner and an outer variable change places."""
        bottom, cells = self.rows.pop(inner)
        side = 1 if cells[outer] > 0 else -1
        told = {key: -side * number for key, number in cells.items() if key != outer}
        # What is to be 0 is so from now on, and is told no more: `traced` finds its numbers in the end.
        if self.kinds[inner] != ZERO:
            told[inner] = side * bottom
        head = side * cells[outer]
        changes = []
        for variable, row in list(self.rows.items()):
            if outer in row[1]:
                self.rows[variable], change = self.put_in(row, outer, head, told)
                changes.append((variable, *change))
        for at, goal in enumerate(list(self.goals)):
            if outer in goal[1]:
                self.goals[at], change = self.put_in(goal, outer, head, told)
                if at == 0:
                    changes.append((COST, *change))
        self.trail.append((inner, outer, side, changes))
        # Nobody asks free variables for anything, so their rows need not be kept up.
        if self.kinds[outer] == FREE:
            self.frozen.append((outer, head, told))
        else:
            self.rows[outer] = (head, told)

    def put_in(self, row, outer, head, told):
        """A row, its outer variable being told by others over the head, and how it was made.

        It is the former row so many times, and what is told so many times, divided by a number.
        """
        bottom, cells = row
        common = gcd(cells[outer], head)
        scale, weight = head // common, cells[outer] // common
        found = {key: number * scale for key, number in cells.items() if key != outer}
        # Of a rough difference that loses half of its digits nothing is left.
        lost = self.kept // 2 if self.is_rough else 0
        for key, number in told.items():
            former = found.get(key, 0)
            total = former + weight * number
            if total == 0 or (lost and total.bit_length() + lost < former.bit_length()):
                found.pop(key, None)
            else:
                found[key] = total
        bottom, found, common = _lowest(bottom * scale, found)
        if self.kept is not None:
            longest = max(bottom.bit_length(), max([number.bit_length() for number in found.values()], default=0))
            if longest > self.kept:
                self.is_rough = True
                bottom, found = _cut(bottom, found, longest - self.kept)
        return ((bottom, found), (scale, weight, common))

    def traced(self, variable):
        """The pair (scale, numbers): a row's bottom times its variable, less what the row tells, all so many times,
        is the sum of all forms, each less what it is over unknowns, so many times."""
        found = {variable: 1}
        scale = 1
        for inner, outer, side, changes in reversed(self.trail):
            # The row of the outer variable is that of the inner one, told otherwise.
            total = -side * found.pop(outer, 0)
            touched = [change for change in changes if change[0] in found]
            common = 1
            for _, _, _, divisor in touched:
                common = lcm(common, divisor)
            if common != 1:
                found = {key: number * common for key, number in found.items()}
                total, scale = total * common, scale * common
            for key, times, weight, divisor in touched:
                number = found[key] // divisor
                found[key] = number * times
                total = total - side * weight * number
            if total != 0:
                found[inner] = total
            if common != 1:
                scale, found = _reduced(scale, found)
        return (scale, [found.get(key, 0) for key in range(self.many, len(self.kinds))])

    def clash(self, inner):
        """How often each form comes in a sum that is below 0, told by a row that nothing can mend."""
        side = 1 if self.rows[inner][1][ONE] < 0 else -1
        return [side * number for number in reduced(self.traced(inner)[1])]

    def point(self):
        """The vector of the unknowns that the board stands for."""
        values = {variable: (cells.get(ONE, 0), bottom) for variable, (bottom, cells) in self.rows.items()}
        for variable, bottom, cells in reversed(self.frozen):
            values[variable] = _value(bottom, cells, values)
        found = [values.get(variable, (0, 1)) for variable in range(self.many)]
        common = 1
        for _, bottom in found:
            common = lcm(common, bottom)
        return [common, *[top * (common // bottom) for top, bottom in found]]

    def least(self):
        """(weight, numbers): so many times the costs, less their least value, is the sum of the forms, each so many
        times, and of signed unknowns."""
        scale, numbers = self.traced(COST)
        return (scale * self.goals[0][0], [-number for number in numbers])


def _common(bottom, cells):
    common = bottom
    for number in cells.values():
        if common == 1:
            break
        common = gcd(common, number)
    return common


def _lowest(bottom, cells):
    # The bottom and the cells divided by what they have in common, and this.
    common = _common(bottom, cells)
    if common == 1:
        return (bottom, cells, 1)
    return (bottom // common, {key: number // common for key, number in cells.items()}, common)


def _reduced(bottom, cells):
    return _lowest(bottom, cells)[:2]


def _cut(bottom, cells, digits):
    # The bottom and the cells without so many binary digits; what has no more is nothing.
    found = {}
    for key, number in cells.items():
        size = abs(number) >> digits
        if size:
            found[key] = size if number > 0 else -size
    return (max(1, bottom >> digits), found)


def _value(bottom, cells, values):
    top, common = 0, 1
    for key, number in cells.items():
        more, under = (1, 1) if key == ONE else values.get(key, (0, 1))
        both = lcm(common, under)
        top = top * (both // common) + number * more * (both // under)
        common = both
    scale = gcd(top, common * bottom)
    return (top // scale, common * bottom // scale)
