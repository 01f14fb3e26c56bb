"""Tables of numbers in which variables change places.

Variables are unknowns, and behind them forms. Each row tells an inner variable
by the outer ones: its number without any, and its number of each outer one, all
over one bottom. As the bottom is a determinant, and so are all numbers, each
division below leaves nothing.
"""

FREE = 0
SIGNED = 1
ZERO = 2


class Table:
    """The forms inside, the unknowns outside, till some change places.

    A changing class. Kinds tell of each variable whether it is free, at least
    0, or just 0; outer ones are 0 at the point that the table stands for.
    """

    def __init__(self, kinds, forms, form_kinds):
        self.many = len(kinds)
        self.size = len(forms)
        self.kinds = [*kinds, *form_kinds]
        self.outer = list(range(len(kinds)))
        self.inner = list(range(len(kinds), len(kinds) + len(forms)))
        self.rows = [list(form) for form in forms]
        self.bottom = 1

    def inner_kind(self, at):
        """The kind of the variable of a row."""
        return self.kinds[self.inner[at]]

    def outer_kind(self, column):
        """The kind of the variable of a column, from 1 on."""
        return self.kinds[self.outer[column - 1]]

    def columns(self):
        """The columns of outer variables."""
        return list(range(1, len(self.outer) + 1))

    def exchange(self, at, column):
        """Let the variables of a row and of a column change places."""
        side = 1 if self.rows[at][column] > 0 else -1
        head = [side * number for number in self.rows[at]]
        for place in range(len(self.rows)):
            if place != at:
                self.rows[place] = _exchanged(self.rows[place], head, column, self.bottom, side)
        self.rows[at] = [-number for number in head]
        self.rows[at][column] = side * self.bottom
        self.bottom = head[column]
        inner, outer = self.inner[at], self.outer[column - 1]
        self.inner[at] = outer
        self.outer[column - 1] = inner

    def told(self, form):
        """A form over the unknowns, told by what is outside now, over the bottom."""
        total = [form[0] * self.bottom] + [0] * len(self.outer)
        for column in self.columns():
            if self.outer[column - 1] < self.many:
                total[column] = form[self.outer[column - 1] + 1] * self.bottom
        for row, variable in zip(self.rows, self.inner):
            if variable < self.many and form[variable + 1] != 0:
                number = form[variable + 1]
                total = [mine + number * yours for mine, yours in zip(total, row)]
        return total

    def enter(self, row):
        """Put a told row behind the others, as that of a free variable; its index."""
        self.kinds.append(FREE)
        self.inner.append(len(self.kinds) - 1)
        self.rows.append(row)
        return len(self.rows) - 1

    def drop(self, at):
        """Take a row and its variable away."""
        del self.rows[at]
        del self.inner[at]

    def point(self):
        """The vector that the table stands for, each outer variable being 0."""
        vector = [self.bottom] + [0] * self.many
        for row, variable in zip(self.rows, self.inner):
            if variable < self.many:
                vector[variable + 1] = row[0]
        return vector

    def direction(self, column, side):
        """How the unknowns go when an outer variable grows (side 1), or falls (-1)."""
        vector = [0] * (self.many + 1)
        if self.outer[column - 1] < self.many:
            vector[self.outer[column - 1] + 1] = side * self.bottom
        for row, variable in zip(self.rows, self.inner):
            if variable < self.many:
                vector[variable + 1] = side * row[column]
        return vector

    def numbers(self, at):
        """How often each form comes in a row, the row's own variable left out."""
        found = [0] * self.size
        for column in self.columns():
            place = self.outer[column - 1] - self.many
            if 0 <= place < self.size:
                found[place] = self.rows[at][column]
        return found


def _exchanged(row, head, column, bottom, side):
    weight = row[column]
    pivot = head[column]
    if weight == 0:
        return row if pivot == bottom else [number * pivot // bottom for number in row]
    changed = [(number * pivot - weight * other) // bottom for number, other in zip(row, head)]
    changed[column] = side * weight
    return changed
