"""Answers read off tables: points and bars, sums, least values."""
from math import gcd

from fallorflow.base.plain import at_vector, reduced
from fallorflow.lots.simplex import lowered, opened
from fallorflow.lots.tables import FREE, SIGNED, ZERO, Table


def rows_table(many, rows):
    """The table of rows that are to be at least 0, over free unknowns."""
    return Table([FREE] * many, rows, [SIGNED] * len(rows))


def equations_table(signs, equations):
    """The table of forms that are to be 0, over signed unknowns and free ones."""
    kinds = [SIGNED if sign else FREE for sign in signs]
    return Table(kinds, equations, [ZERO] * len(equations))


def point_of(table):
    """The point that the table stands for."""
    return reduced(table.point())


def bar_of(table, at):
    """How often each form comes in a sum that is below 0, told by the row that bars."""
    found = [-number for number in table.numbers(at)]
    own = table.inner[at] - table.many
    if 0 <= own < table.size:
        found[own] = table.bottom
    # A form that is to be 0 bars by a number above 0, too: its opposite is below 0.
    return reduced(found if table.rows[at][0] < 0 else [-number for number in found])


def least_of(table, form):
    """The least value of a form, the table having a point.

    ("least", (top, bottom), point, scale, numbers): scale times the form, less
    its least value, is the sum of the forms, each so many times, or ("falls",
    point, direction).
    """
    goal = table.enter(table.told(form))
    column = lowered(table, goal, False)
    if column is not None:
        return ("falls", point_of(table), _fall(table, goal, column))
    value, numbers = table.rows[goal][0], table.numbers(goal)
    common = gcd(value, table.bottom)
    fraction = (value // common, table.bottom // common)
    scale, *numbers = reduced([common, *numbers, *_signed_numbers(table, goal)])[:table.size + 1]
    return ("least", fraction, point_of(table), scale, tuple(numbers))


def _signed_numbers(table, goal):
    return [table.rows[goal][column] for column in table.columns() if table.outer[column - 1] < table.many]


def _fall(table, goal, column):
    side = 1 if table.rows[goal][column] < 0 else -1
    return reduced(table.direction(column, side))


def sum_or_point(table, form):
    """("follows", sum) or ("escapes", point), the table of rows having a point."""
    goal = table.enter(table.told(form))
    column = lowered(table, goal, True)
    if column is not None:
        return ("escapes", _far_point(point_of(table), _fall(table, goal, column), form))
    if table.rows[goal][0] < 0:
        return ("escapes", point_of(table))
    return ("follows", reduced([table.bottom, table.rows[goal][0], *table.numbers(goal)]))


def _far_point(point, direction, form):
    high, fall = at_vector(form, point), -at_vector(form, direction)
    steps = max(0, high // fall + 1)
    return reduced([mine + steps * yours for mine, yours in zip(point, direction)])


def sum_by_bar(rows, bar):
    """The sum with the scale 0 that a bar for the rows makes."""
    below = sum([number * row[0] for number, row in zip(bar, rows)])
    return (0, -below, *bar)


def solved_rows(many, rows):
    """("point", point) or ("bar", bar) for any rows."""
    table = rows_table(many, rows)
    at = opened(table)
    return ("point", point_of(table)) if at is None else ("bar", bar_of(table, at))


def followed(many, rows, form):
    """("follows", sum) or ("escapes", point) for any rows and a form."""
    table = rows_table(many, rows)
    at = opened(table)
    if at is not None:
        return ("follows", sum_by_bar(rows, bar_of(table, at)))
    return sum_or_point(table, form)


def followed_each(many, rows, forms):
    """The list of what `followed` tells of each form, the rows being opened once."""
    table = rows_table(many, rows)
    at = opened(table)
    if at is not None:
        told = sum_by_bar(rows, bar_of(table, at))
        return [("follows", told) for _ in forms]
    found = []
    for form in forms:
        found.append(sum_or_point(table, form))
        table.drop(len(table.rows) - 1)
    return found


def solved_equations(signs, equations):
    """("solution", point) or ("clash", clash) for any signs and equations."""
    table = equations_table(signs, equations)
    at = opened(table)
    return ("solution", point_of(table)) if at is None else ("clash", bar_of(table, at))
